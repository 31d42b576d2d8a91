import PyProof.Rows.All
import Wide.All
import OpenK.AllK
import Wide.FinOn
import HandS.ForMost
import HandS.ExcInit
import HandS.ExcIs
import HandS.IsInst
import HandS.TupAny
import HandS.Wide
import HandS.Zip
import KE.GoesNew
import KE.GoesMore
import HandS.Comp
import HandS.More
import HandS.Style
import HandS.HeadEnd
import HandS.EndBits
import HandS.Defaults
import HandS.Head0
import HandS.Head1
import HandS.Head2
import HandS.HeadHook1
import HandS.HeadHook2
import HandS.Text
import HandS.ExcOwn
import HandS.WordsExc
import HandS.TryMany
import HandS.ExcField
import HandS.Dict
import PyProof.TupleOfStr
import PyProof.StrBlock2
import HandS.RaiseMore
import HandS.TupMul
import HandS.SortOrd
import HandS.NamedTupSort
import KE.KSortAsk
import HandS.Codes
import PySem.Challenge.RW_kindsworn_k04_whole_places_and_parts
set_option Elab.async false
set_option linter.all false
set_option maxRecDepth 100000
namespace VI
open PySem PySem.Spec PyProof.Rows L2

/-! values: pure data; a live list or dict of the store; a tuple that holds live ones -/
inductive W where
  | d (x : PyData)
  | loc (l : Nat)
  | tp (xs : List W)
  | fro (xs : List PyData)
/-- a live object -/
inductive SO where
  | lst (xs : List PyData)
  | dK (kvs : List (Key × PyData))
  | dT (kvs : List (List Key × PyData))
abbrev Store := List SO
abbrev Rho := List (Option W)
inductive R (α : Type) where
  | ok (a : α) (S : Store)
  | exc (c : Nat) (fs : List (Str × W)) (S : Store)
  | bad
def R.bind {α β : Type} (r : R α) (k : α → Store → R β) : R β :=
  match r with
  | .ok a S => k a S
  | .exc c fs S => .exc c fs S
  | .bad => .bad
abbrev O := Option (W × Store)
def lift (o : O) : R W :=
  match o with
  | some (w, S) => .ok w S
  | none => .bad

/-! what stands for what -/
/-- a list that is only read: frozen, or one of the module -/
def SqF (K : PySem.W.Frag) (H : Hp) (a : Addr) (xs : List V) : Prop :=
  (∃ o, H a = some (.frz o (.lst xs))) ∨
    ∃ (o : Obj) (its : Array Value) (n : Nat), K.lookup a = some o ∧ o.cls = .type "list" ∧ o.dict = none ∧ o.data = .seq its n ∧ its.size ≤ sizeLine ∧ Vals xs its.toList
theorem SqF.seq {K : PySem.W.Frag} {H : Hp} {a : Addr} {xs : List V} (h : SqF K H a xs) : SqL K H a xs := by
  rcases h with ⟨o, h⟩ | h
  · exact .inl (.inr ⟨o, h⟩)
  · exact .inr h
def tys : List String := ["NoneType", "bool", "int", "str", "list", "tuple", "dict"]
/-- a class of the module's own over the exceptions, no built-in type being above it but these -/
structure OwnT (K : PySem.W.Frag) (C : Addr) : Prop where
  exc : L2.ExcC K C
  not : ∀ T ∈ tys, PySem.W.kitOne K (.ref C) (.type T) = some false
mutual
inductive RepD (K : PySem.W.Frag) (η : List Addr) (H : Hp) : PyData → V → Prop
  | none : RepD K η H .none .non
  | bool (b : Bool) : RepD K η H (.bool b) (.bl b)
  | int (i : Int) : RepD K η H (.int i) (.int i)
  | str (x : Str) : RepD K η H (.str x) (.str x)
  | list {a : Addr} {vs : List V} {ds : List PyData} : H a = some (.lst vs) → a ∉ η → RepDs K η H ds vs → RepD K η H (.list ds) (.ref a)
  | tuple {a : Addr} {vs : List V} {ds : List PyData} : SqT K H a vs → RepDs K η H ds vs → RepD K η H (.tuple ds) (.ref a)
  | dct {a : Addr} {kvs : List (Key × V)} : H a = some (.dK kvs) → a ∉ η → RepD K η H (.dict []) (.ref a)
  | own {a C : Addr} : H a = some (exo a C none) → a ∉ η → OwnT K C → RepD K η H (.dict [(.none, .none)]) (.ref a)
inductive RepDs (K : PySem.W.Frag) (η : List Addr) (H : Hp) : List PyData → List V → Prop
  | nil : RepDs K η H [] []
  | cons {d : PyData} {ds : List PyData} {v : V} {vs : List V} : RepD K η H d v → RepDs K η H ds vs → RepDs K η H (d :: ds) (v :: vs)
end
mutual
inductive RepW (K : PySem.W.Frag) (η : List Addr) (H : Hp) : W → V → Prop
  | d {x : PyData} {v : V} : RepD K η H x v → RepW K η H (.d x) v
  | loc {l : Nat} {a : Addr} : η[l]? = some a → RepW K η H (.loc l) (.ref a)
  | tp {a : Addr} {vs : List V} {ws : List W} : SqT K H a vs → RepWs K η H ws vs → RepW K η H (.tp ws) (.ref a)
  | fro {a : Addr} {vs : List V} {ds : List PyData} : SqF K H a vs → RepDs K η H ds vs → RepW K η H (.fro ds) (.ref a)
inductive RepWs (K : PySem.W.Frag) (η : List Addr) (H : Hp) : List W → List V → Prop
  | nil : RepWs K η H [] []
  | cons {w : W} {ws : List W} {v : V} {vs : List V} : RepW K η H w v → RepWs K η H ws vs → RepWs K η H (w :: ws) (v :: vs)
end
/-- what comes later: more live objects, and nothing but live ones changed -/
structure Fu (η : List Addr) (H : Hp) (η' : List Addr) (H' : Hp) : Prop where
  px : ∃ r, η' = η ++ r
  nw : ∀ a ∈ η', a ∈ η ∨ H a = none
  tk : ∀ a, H' a = none → H a = none
  tp : ∀ a xs, H a = some (.tup xs) → H' a = some (.tup xs)
  fz : ∀ a o u, H a = some (.frz o u) → H' a = some (.frz o u)
  ls : ∀ a o, a ∉ η → H a = some o → H' a = some o
theorem Fu.refl (η : List Addr) (H : Hp) : Fu η H η H := ⟨⟨[], by simp⟩, fun a h => .inl h, fun _ h => h, fun _ _ h => h, fun _ _ _ h => h, fun _ _ _ h => h⟩
section
variable {K : PySem.W.Frag} {η η' η2 : List Addr} {H H' H2 : Hp}
theorem Fu.out (f : Fu η H η' H') {a : Addr} {o : HO} (h : a ∉ η) (e : H a = some o) : a ∉ η' := fun m => by
  rcases f.nw a m with z | z
  · exact h z
  · rw [z] at e; cases e
theorem Fu.trans (f : Fu η H η' H') (g : Fu η' H' η2 H2) : Fu η H η2 H2 := by
  obtain ⟨r, e⟩ := f.px
  obtain ⟨r2, e2⟩ := g.px
  refine ⟨⟨r ++ r2, by rw [e2, e, List.append_assoc]⟩, fun a m => ?_, fun a h => f.tk a (g.tk a h), fun a xs h => g.tp a xs (f.tp a xs h), fun a o u h => g.fz a o u (f.fz a o u h), fun a xs n h => g.ls a xs (f.out n h) (f.ls a xs n h)⟩
  rcases g.nw a m with z | z
  · exact f.nw a z
  · exact .inr (f.tk a z)
theorem Fu.get (f : Fu η H η' H') {l : Nat} {a : Addr} (h : η[l]? = some a) : η'[l]? = some a := by
  obtain ⟨r, e⟩ := f.px
  rw [e, List.getElem?_append_left (List.getElem?_eq_some_iff.mp h).1]
  exact h
theorem SqT.fu (f : Fu η H η' H') {a : Addr} {xs : List V} (h : SqT K H a xs) : SqT K H' a xs := by
  rcases h with (h | ⟨o, h⟩) | h
  · exact .inl (.inl (f.tp _ _ h))
  · exact .inl (.inr ⟨o, f.fz _ _ _ h⟩)
  · exact .inr h
theorem SqF.fu (f : Fu η H η' H') {a : Addr} {xs : List V} (h : SqF K H a xs) : SqF K H' a xs := by
  rcases h with ⟨o, h⟩ | h
  · exact .inl ⟨o, f.fz _ _ _ h⟩
  · exact .inr h
mutual
theorem RepD.fu (f : Fu η H η' H') : ∀ (x : PyData) (v : V), RepD K η H x v → RepD K η' H' x v
  | .none, _, h => by cases h; exact .none
  | .bool _, _, h => by cases h; exact .bool _
  | .int _, _, h => by cases h; exact .int _
  | .str _, _, h => by cases h; exact .str _
  | .list ds, _, h => by
    cases h with
    | list h1 h3 h2 => exact .list (f.ls _ _ h3 h1) (f.out h3 h1) (RepDs.fu f ds _ h2)
  | .tuple ds, _, h => by
    cases h with
    | tuple h1 h2 => exact .tuple (SqT.fu f h1) (RepDs.fu f ds _ h2)
  | .dict _, _, h => by
    cases h with
    | dct h1 h2 => exact .dct (f.ls _ _ h2 h1) (f.out h2 h1)
    | own h1 h2 h3 => exact .own (f.ls _ _ h2 h1) (f.out h2 h1) h3
theorem RepDs.fu (f : Fu η H η' H') : ∀ (xs : List PyData) (vs : List V), RepDs K η H xs vs → RepDs K η' H' xs vs
  | [], _, h => by cases h; exact .nil
  | x :: xs, _, h => by
    cases h with
    | cons h1 h2 => exact .cons (RepD.fu f x _ h1) (RepDs.fu f xs _ h2)
end
mutual
theorem RepW.fu (f : Fu η H η' H') : ∀ (x : W) (v : V), RepW K η H x v → RepW K η' H' x v
  | .d x, _, h => by cases h with | d h => exact .d (RepD.fu f x _ h)
  | .loc l, _, h => by cases h with | loc h => exact .loc (f.get h)
  | .tp ws, _, h => by cases h with | tp h1 h2 => exact .tp (SqT.fu f h1) (RepWs.fu f ws _ h2)
  | .fro ws, _, h => by cases h with | fro h1 h2 => exact .fro (SqF.fu f h1) (RepDs.fu f ws _ h2)
theorem RepWs.fu (f : Fu η H η' H') : ∀ (xs : List W) (vs : List V), RepWs K η H xs vs → RepWs K η' H' xs vs
  | [], _, h => by cases h; exact .nil
  | x :: xs, _, h => by
    cases h with
    | cons h1 h2 => exact .cons (RepW.fu f x _ h1) (RepWs.fu f xs _ h2)
end
theorem RepWs.length : ∀ {ws : List W} {vs : List V}, RepWs K η H ws vs → ws.length = vs.length
  | [], _, h => by cases h; rfl
  | w :: ws, _, h => by cases h with | cons _ h2 => rw [List.length_cons, List.length_cons, RepWs.length h2]
theorem RepDs.length : ∀ {ws : List PyData} {vs : List V}, RepDs K η H ws vs → ws.length = vs.length
  | [], _, h => by cases h; rfl
  | w :: ws, _, h => by cases h with | cons _ h2 => rw [List.length_cons, List.length_cons, RepDs.length h2]
theorem RepDs.get : ∀ {ws : List PyData} {vs : List V} {i : Nat} {w : PyData}, RepDs K η H ws vs → ws[i]? = some w → ∃ v, vs[i]? = some v ∧ RepD K η H w v
  | [], _, _, _, _, e => by simp at e
  | x :: xs, _, 0, w, h, e => by
    cases h with
    | cons h1 h2 =>
      simp at e
      subst e
      exact ⟨_, rfl, h1⟩
  | x :: xs, _, i + 1, w, h, e => by
    cases h with
    | cons h1 h2 =>
      obtain ⟨v, e1, e2⟩ := RepDs.get (i := i) (w := w) h2 (by simpa using e)
      exact ⟨v, by simpa using e1, e2⟩
theorem RepWs.get : ∀ {ws : List W} {vs : List V} {i : Nat} {w : W}, RepWs K η H ws vs → ws[i]? = some w → ∃ v, vs[i]? = some v ∧ RepW K η H w v
  | [], _, _, _, _, e => by simp at e
  | x :: xs, _, 0, w, h, e => by
    cases h with
    | cons h1 h2 =>
      simp at e
      subst e
      exact ⟨_, rfl, h1⟩
  | x :: xs, _, i + 1, w, h, e => by
    cases h with
    | cons h1 h2 =>
      obtain ⟨v, e1, e2⟩ := RepWs.get (i := i) (w := w) h2 (by simpa using e)
      exact ⟨v, by simpa using e1, e2⟩
theorem RepWs.append : ∀ {ws ws' : List W} {vs vs' : List V}, RepWs K η H ws vs → RepWs K η H ws' vs' → RepWs K η H (ws ++ ws') (vs ++ vs')
  | [], _, _, _, h, h' => by cases h; exact h'
  | w :: ws, _, _, _, h, h' => by cases h with | cons h1 h2 => exact .cons h1 (RepWs.append h2 h')
theorem RepDs.append : ∀ {ws ws' : List PyData} {vs vs' : List V}, RepDs K η H ws vs → RepDs K η H ws' vs' → RepDs K η H (ws ++ ws') (vs ++ vs')
  | [], _, _, _, h, h' => by cases h; exact h'
  | w :: ws, _, _, _, h, h' => by cases h with | cons h1 h2 => exact .cons h1 (RepDs.append h2 h')
theorem RepDs.take : ∀ {ws : List PyData} {vs : List V} (n : Nat), RepDs K η H ws vs → RepDs K η H (ws.take n) (vs.take n)
  | _, _, 0, _ => by simp only [List.take_zero]; exact .nil
  | [], _, _ + 1, h => by cases h; exact .nil
  | w :: ws, _, n + 1, h => by cases h with | cons h1 h2 => exact .cons h1 (RepDs.take n h2)
theorem RepDs.drop : ∀ {ws : List PyData} {vs : List V} (n : Nat), RepDs K η H ws vs → RepDs K η H (ws.drop n) (vs.drop n)
  | _, _, 0, h => h
  | [], _, _ + 1, h => by cases h; exact .nil
  | w :: ws, _, n + 1, h => by cases h with | cons h1 h2 => exact RepDs.drop n h2
theorem RepWs.take : ∀ {ws : List W} {vs : List V} (n : Nat), RepWs K η H ws vs → RepWs K η H (ws.take n) (vs.take n)
  | _, _, 0, _ => by simp only [List.take_zero]; exact .nil
  | [], _, _ + 1, h => by cases h; exact .nil
  | w :: ws, _, n + 1, h => by cases h with | cons h1 h2 => exact .cons h1 (RepWs.take n h2)
theorem RepWs.drop : ∀ {ws : List W} {vs : List V} (n : Nat), RepWs K η H ws vs → RepWs K η H (ws.drop n) (vs.drop n)
  | _, _, 0, h => h
  | [], _, _ + 1, h => by cases h; exact .nil
  | w :: ws, _, n + 1, h => by cases h with | cons h1 h2 => exact RepWs.drop n h2
theorem RepWs.set {w : W} {v : V} (r : RepW K η H w v) : ∀ {ws : List W} {vs : List V} (n : Nat), RepWs K η H ws vs → RepWs K η H (ws.set n w) (vs.set n v)
  | [], _, n, h => by cases h; exact .nil
  | x :: ws, _, 0, h => by cases h with | cons h1 h2 => exact .cons r h2
  | x :: ws, _, n + 1, h => by cases h with | cons h1 h2 => exact .cons h1 (RepWs.set r n h2)
theorem RepDs.set {w : PyData} {v : V} (r : RepD K η H w v) : ∀ {ws : List PyData} {vs : List V} (n : Nat), RepDs K η H ws vs → RepDs K η H (ws.set n w) (vs.set n v)
  | [], _, n, h => by cases h; exact .nil
  | x :: ws, _, 0, h => by cases h with | cons h1 h2 => exact .cons r h2
  | x :: ws, _, n + 1, h => by cases h with | cons h1 h2 => exact .cons h1 (RepDs.set r n h2)
theorem RepDs.eraseIdx : ∀ {ws : List PyData} {vs : List V} (n : Nat), RepDs K η H ws vs → RepDs K η H (ws.eraseIdx n) (vs.eraseIdx n)
  | [], _, n, h => by cases h; exact .nil
  | x :: ws, _, 0, h => by cases h with | cons h1 h2 => exact h2
  | x :: ws, _, n + 1, h => by cases h with | cons h1 h2 => exact .cons h1 (RepDs.eraseIdx n h2)
theorem RepDs.dropLast {ws : List PyData} {vs : List V} (h : RepDs K η H ws vs) : RepDs K η H ws.dropLast vs.dropLast := by
  rw [List.dropLast_eq_take, List.dropLast_eq_take, h.length]
  exact h.take _
theorem RepDs.reverse : ∀ {ws : List PyData} {vs : List V}, RepDs K η H ws vs → RepDs K η H ws.reverse vs.reverse
  | [], _, h => by cases h; exact .nil
  | x :: ws, _, h => by
    cases h with
    | cons h1 h2 =>
      rw [List.reverse_cons, List.reverse_cons]
      exact (RepDs.reverse h2).append (.cons h1 .nil)
theorem RepWs.ofD : ∀ {ds : List PyData} {vs : List V}, RepDs K η H ds vs → RepWs K η H (ds.map W.d) vs
  | [], _, h => by cases h; exact .nil
  | x :: xs, _, h => by cases h with | cons h1 h2 => exact .cons (.d h1) (RepWs.ofD h2)
/-- all are pure data -/
def datas : List W → Option (List PyData)
  | [] => some []
  | .d x :: r => (datas r).map (x :: ·)
  | _ :: _ => none
theorem datas_ok : ∀ {ws : List W} {ds : List PyData} {vs : List V}, datas ws = some ds → RepWs K η H ws vs → RepDs K η H ds vs
  | [], ds, vs, e, h => by cases e; cases h; exact .nil
  | .d x :: r, ds, vs, e, h => by
    cases h with
    | cons h1 h2 =>
      cases h1 with
      | d h1 =>
        cases q : datas r with
        | none => rw [datas, q] at e; cases e
        | some ds' =>
          rw [datas, q] at e
          cases e
          exact .cons h1 (datas_ok q h2)
  | .loc _ :: _, ds, vs, e, h => by cases e
  | .tp _ :: _, ds, vs, e, h => by cases e
  | .fro _ :: _, ds, vs, e, h => by cases e
theorem datas_map : ∀ ds : List PyData, datas (ds.map W.d) = some ds
  | [] => rfl
  | x :: xs => by rw [List.map_cons, datas, datas_map xs]; rfl
end

/-! the store -/
def ORep (K : PySem.W.Frag) (η : List Addr) (H : Hp) (a : Addr) : SO → Prop
  | .lst ws => ∃ vs, H a = some (.lst vs) ∧ RepDs K η H ws vs
  | .dK kvs => ∃ vs, H a = some (.dK vs) ∧ kvs.map (·.1) = vs.map (·.1) ∧ RepDs K η H (kvs.map (·.2)) (vs.map (·.2))
  | .dT kvs => ∃ vs, H a = some (.dT vs) ∧ kvs.map (·.1) = vs.map (·.1) ∧ RepDs K η H (kvs.map (·.2)) (vs.map (·.2))
theorem ORep.there {K : PySem.W.Frag} {η : List Addr} {H : Hp} {a : Addr} : ∀ {o : SO}, ORep K η H a o → ∃ u, H a = some u ∧ Mut (some u)
  | .lst _, ⟨_, h, _⟩ => ⟨_, h, trivial⟩
  | .dK _, ⟨_, h, _⟩ => ⟨_, h, trivial⟩
  | .dT _, ⟨_, h, _⟩ => ⟨_, h, trivial⟩
structure Rp (K : PySem.W.Frag) (η : List Addr) (H : Hp) (S : Store) : Prop where
  len : η.length = S.length
  nd : η.Nodup
  all : ∀ (l : Nat) (a : Addr) (o : SO), η[l]? = some a → S[l]? = some o → ORep K η H a o
section
variable {K : PySem.W.Frag} {η η' : List Addr} {H H' : Hp} {S S' : Store}
theorem Rp.there (r : Rp K η H S) {a : Addr} (m : a ∈ η) : ∃ u, H a = some u ∧ Mut (some u) := by
  obtain ⟨l, hl, e⟩ := List.getElem_of_mem m
  have hs : l < S.length := by rw [← r.len]; exact hl
  exact (r.all l a S[l] (by rw [List.getElem?_eq_getElem hl, e]) (List.getElem?_eq_getElem hs)).there
theorem Rp.addr (r : Rp K η H S) {l : Nat} {o : SO} (h : S[l]? = some o) : ∃ a, η[l]? = some a ∧ ORep K η H a o := by
  have hl : l < η.length := by rw [r.len]; exact (List.getElem?_eq_some_iff.mp h).1
  exact ⟨_, List.getElem?_eq_getElem hl, r.all _ _ _ (List.getElem?_eq_getElem hl) h⟩
/-- a new object that is not live -/
theorem fu_new {p : Addr} {o : HO} (hp : H p = none) : Fu η H η (upd H p o) :=
  ⟨⟨[], by simp⟩, fun a h => .inl h, fun a h => by
    by_cases e : a = p
    · subst e; exact hp
    · rw [upd_ne e] at h; exact h, fun a xs h => by rw [upd_ne (ne_of_none h hp)]; exact h, fun a o u h => by rw [upd_ne (ne_of_none h hp)]; exact h, fun a xs _ h => by rw [upd_ne (ne_of_none h hp)]; exact h⟩
theorem ORep.fu (f : Fu η H η' H') {a : Addr} (hk : ∀ u, H a = some u → H' a = some u) : ∀ {o : SO}, ORep K η H a o → ORep K η' H' a o
  | .lst _, ⟨vs, h, r⟩ => ⟨vs, hk _ h, RepDs.fu f _ _ r⟩
  | .dK _, ⟨vs, h, e, r⟩ => ⟨vs, hk _ h, e, RepDs.fu f _ _ r⟩
  | .dT _, ⟨vs, h, e, r⟩ => ⟨vs, hk _ h, e, RepDs.fu f _ _ r⟩
theorem Rp.new (r : Rp K η H S) {p : Addr} {o : HO} (hp : H p = none) : Rp K η (upd H p o) S :=
  ⟨r.len, r.nd, fun l a so h1 h2 => (r.all l a so h1 h2).fu (fu_new hp) fun u e => by rw [upd_ne (ne_of_none e hp)]; exact e⟩
theorem Rp.notin (r : Rp K η H S) {p : Addr} (hp : H p = none) : p ∉ η := fun m => by
  obtain ⟨u, e, _⟩ := r.there m
  rw [hp] at e; cases e
/-- a new live object -/
theorem fu_live {p : Addr} {o : HO} (hp : H p = none) : Fu η H (η ++ [p]) (upd H p o) := by
  have f : Fu η H η (upd H p o) := fu_new hp
  refine ⟨⟨[p], rfl⟩, fun a h => ?_, f.tk, f.tp, f.fz, f.ls⟩
  rcases List.mem_append.mp h with h | h
  · exact .inl h
  · exact .inr (by rw [List.mem_singleton.mp h]; exact hp)
theorem Rp.live (r : Rp K η H S) {p : Addr} {o : HO} {so : SO} (hp : H p = none) (hn : ORep K (η ++ [p]) (upd H p o) p so) : Rp K (η ++ [p]) (upd H p o) (S ++ [so]) := by
  refine ⟨by rw [List.length_append, List.length_append, r.len]; rfl, ?_, fun l a so' h1 h2 => ?_⟩
  · refine List.nodup_append.mpr ⟨r.nd, by simp, fun a ha b hb => ?_⟩
    rw [List.mem_singleton.mp hb]
    exact fun e => r.notin hp (e ▸ ha)
  · by_cases hl : l < S.length
    · rw [List.getElem?_append_left (by rw [r.len]; exact hl)] at h1
      rw [List.getElem?_append_left hl] at h2
      exact (r.all l a so' h1 h2).fu (fu_live hp) fun u e => by rw [upd_ne (ne_of_none e hp)]; exact e
    · have e : l = S.length := by
        have := (List.getElem?_eq_some_iff.mp h2).1
        rw [List.length_append] at this
        simp at this
        omega
      subst e
      rw [List.getElem?_append_right (by rw [r.len]; exact Nat.le_refl _), r.len] at h1
      rw [List.getElem?_append_right (Nat.le_refl _)] at h2
      simp at h1 h2
      subst h1 h2
      exact hn
/-- a live object is written -/
theorem fu_write {a : Addr} {u o : HO} (m : a ∈ η) (h : H a = some u) (mu : Mut (some u)) : Fu η H η (upd H a o) := by
  refine ⟨⟨[], by simp⟩, fun a h => .inl h, fun b q => ?_, fun b xs q => ?_, fun b ob v q => ?_, fun b xs n q => ?_⟩
  · by_cases e : b = a
    · subst e; rw [upd_same] at q; cases q
    · rw [upd_ne e] at q; exact q
  · rw [upd_ne]
    · exact q
    · rintro rfl; rw [h] at q; cases q; exact mu.elim
  · rw [upd_ne]
    · exact q
    · rintro rfl; rw [h] at q; cases q; exact mu.elim
  · rw [upd_ne]
    · exact q
    · rintro rfl; exact n m
theorem nodup_get {l l' : Nat} {a : Addr} (nd : η.Nodup) (h : η[l]? = some a) (h' : η[l']? = some a) : l = l' := by
  obtain ⟨h1, e1⟩ := List.getElem?_eq_some_iff.mp h
  obtain ⟨h2, e2⟩ := List.getElem?_eq_some_iff.mp h'
  exact (List.getElem_inj nd).mp (e1.trans e2.symm)
theorem Rp.write (r : Rp K η H S) {l : Nat} {a : Addr} {o : HO} {so : SO} (h : η[l]? = some a) (hn : ORep K η (upd H a o) a so) : Rp K η (upd H a o) (S.set l so) := by
  have m : a ∈ η := List.mem_of_getElem? h
  obtain ⟨u, hu, mu⟩ := r.there m
  refine ⟨by rw [List.length_set]; exact r.len, r.nd, fun l' b so' h1 h2 => ?_⟩
  by_cases e : l' = l
  · subst e
    rw [h] at h1
    cases h1
    have hl : l' < S.length := by
      have := (List.getElem?_eq_some_iff.mp h2).1
      rw [List.length_set] at this
      exact this
    rw [List.getElem?_set_self hl] at h2
    cases h2
    exact hn
  · rw [List.getElem?_set_ne (Ne.symm e)] at h2
    refine (r.all l' b so' h1 h2).fu (fu_write m hu mu) fun v q => ?_
    rw [upd_ne]
    · exact q
    · rintro rfl; exact e (nodup_get r.nd h1 h)
end

/-! slots -/
def ERep (K : PySem.W.Frag) (η : List Addr) (H : Hp) (ρ : Rho) (σ : L2.St) : Prop :=
  σ.length = ρ.length ∧ ∀ (i : Nat) (w : W), ρ[i]? = some (some w) → ∃ v, σ[i]? = some (some v) ∧ RepW K η H w v
section
variable {K : PySem.W.Frag} {η η' : List Addr} {H H' : Hp} {S S' : Store} {ρ : Rho} {σ : L2.St}
theorem ERep.fu (f : Fu η H η' H') (e : ERep K η H ρ σ) : ERep K η' H' ρ σ := ⟨e.1, fun i w h => by
  obtain ⟨v, h1, h2⟩ := e.2 i w h
  exact ⟨v, h1, RepW.fu f _ _ h2⟩⟩
theorem ERep.set (e : ERep K η H ρ σ) {i : Nat} {w : W} {v : V} (r : RepW K η H w v) : ERep K η H (ρ.set i (some w)) (σ.set i (some v)) := by
  refine ⟨by rw [List.length_set, List.length_set]; exact e.1, fun j w' h => ?_⟩
  by_cases hj : j = i
  · subst hj
    have hl : j < ρ.length := by
      have := (List.getElem?_eq_some_iff.mp h).1
      rw [List.length_set] at this
      exact this
    rw [List.getElem?_set_self hl] at h
    cases h
    exact ⟨v, List.getElem?_set_self (by rw [e.1]; exact hl), r⟩
  · rw [List.getElem?_set_ne (Ne.symm hj)] at h
    rw [List.getElem?_set_ne (Ne.symm hj)]
    exact e.2 j w' h
end

/-! the ends -/
structure Gc where
  K : PySem.W.Frag
  ct : Nat → Option Addr
abbrev RepF (K : PySem.W.Frag) (η : List Addr) (H : Hp) (fs : List (Str × W)) (vs : List (Str × V)) : Prop :=
  fs.map (·.1) = vs.map (·.1) ∧ RepWs K η H (fs.map (·.2)) (vs.map (·.2))
def FinX (G : Gc) (E : XK) (η : List Addr) (H : Hp) (c : Nat) (fs : List (Str × W)) (S' : Store) : Prop :=
  ∀ η' H' C d vs, Fu η H η' H' → Rp G.K η' H' S' → G.ct c = some C → H' d = some (.xd vs) → RepF G.K η' H' fs vs → E (.ref C) (some d) H'
def FinR {α β : Type} (G : Gc) (rel : α → List Addr → Hp → β → Prop) (E : XK) (η : List Addr) (H : Hp) (r : R α) (Q : β → Hp → Prop) : Prop :=
  match r with
  | .ok a S' => ∀ η' H' v, Fu η H η' H' → Rp G.K η' H' S' → rel a η' H' v → Q v H'
  | .exc c fs S' => FinX G E η H c fs S'
  | .bad => False
abbrev relW (G : Gc) : W → List Addr → Hp → V → Prop := fun w η H v => RepW G.K η H w v
abbrev relB : Bool → List Addr → Hp → Bool → Prop := fun b _ _ v => v = b
abbrev relL (G : Gc) : List W → List Addr → Hp → List V → Prop := fun w η H v => RepWs G.K η H w v
abbrev FinP (G : Gc) (E : XK) (η : List Addr) (H : Hp) (r : R W) (Q : VK) : Prop := FinR G (relW G) E η H r Q
abbrev FinB (G : Gc) (E : XK) (η : List Addr) (H : Hp) (r : R Bool) (Q : Bool → Hp → Prop) : Prop := FinR G relB E η H r Q
abbrev FinL (G : Gc) (E : XK) (η : List Addr) (H : Hp) (r : R (List W)) (Q : List V → Hp → Prop) : Prop := FinR G (relL G) E η H r Q
def FinO (G : Gc) (η : List Addr) (H : Hp) (r : O) (Q : VK) : Prop :=
  match r with
  | some (w, S') => ∀ η' H' v, Fu η H η' H' → Rp G.K η' H' S' → RepW G.K η' H' w v → Q v H'
  | none => False
inductive RF where
  | next (ρ : Rho) (S : Store)
  | ret (w : W) (S : Store)
  | brk (ρ : Rho) (S : Store)
  | cnt (ρ : Rho) (S : Store)
  | exc (c : Nat) (fs : List (Str × W)) (ρ : Rho) (S : Store)
  | bad
def FinS (G : Gc) (E : L2.St → XK) (η : List Addr) (H : Hp) (r : RF) (D : Ends) : Prop :=
  match r with
  | .next ρ S' => ∀ η' H' σ, Fu η H η' H' → Rp G.K η' H' S' → ERep G.K η' H' ρ σ → D.nx σ H'
  | .ret w S' => ∀ η' H' v, Fu η H η' H' → Rp G.K η' H' S' → RepW G.K η' H' w v → D.rt v H'
  | .brk ρ S' => ∀ η' H' σ, Fu η H η' H' → Rp G.K η' H' S' → ERep G.K η' H' ρ σ → D.bk σ H'
  | .cnt ρ S' => ∀ η' H' σ, Fu η H η' H' → Rp G.K η' H' S' → ERep G.K η' H' ρ σ → D.ct σ H'
  | .exc c fs ρ S' => ∀ η' H' σ C d vs, Fu η H η' H' → Rp G.K η' H' S' → ERep G.K η' H' ρ σ → G.ct c = some C → H' d = some (.xd vs) → RepF G.K η' H' fs vs → E σ (.ref C) (some d) H'
  | .bad => False
abbrev FE := Rho → Store → R W
abbrev FT := Rho → Store → R Bool
abbrev FA := Rho → Store → R (List W)
abbrev FS := Rho → Store → RF
abbrev EX := L2.St → XK
def tF (G : Gc) (E : EX) (f : FE) : TE := fun σ H Q => ∃ η ρ S, Rp G.K η H S ∧ ERep G.K η H ρ σ ∧ FinP G (E σ) η H (f ρ S) Q
def tT (G : Gc) (E : EX) (f : FT) : TT := fun σ H Q => ∃ η ρ S, Rp G.K η H S ∧ ERep G.K η H ρ σ ∧ FinB G (E σ) η H (f ρ S) Q
def tA (G : Gc) (E : EX) (f : FA) : TA := fun σ H Q => ∃ η ρ S, Rp G.K η H S ∧ ERep G.K η H ρ σ ∧ FinL G (E σ) η H (f ρ S) Q
def tS (G : Gc) (E : EX) (f : FS) : TS := fun D σ H => ∃ η ρ S, Rp G.K η H S ∧ ERep G.K η H ρ σ ∧ FinS G E η H (f ρ S) D
theorem PEw {X : Cx} {e : Expr} {t t' : TE} (h : PE X e t) (i : ∀ σ H Q, t' σ H Q → t σ H Q) : PE X e t' := ⟨fun pins s σ H Q I q => h.run pins s σ H Q I (i σ H Q q)⟩
theorem PTw {X : Cx} {e : Expr} {t t' : TT} (h : PT X e t) (i : ∀ σ H Q, t' σ H Q → t σ H Q) : PT X e t' := ⟨fun pins s σ H Q I q => h.run pins s σ H Q I (i σ H Q q)⟩
theorem PWw {X : Cx} {e : Expr} {t t' : TT} (h : PW X e t) (i : ∀ σ H Q, t' σ H Q → t σ H Q) : PW X e t' := ⟨fun wh pins s σ H Q I q => h.run wh pins s σ H Q I (i σ H Q q)⟩
theorem PAw {X : Cx} {e : List Expr} {t t' : TA} (h : PA X e t) (i : ∀ σ H Q, t' σ H Q → t σ H Q) : PA X e t' := ⟨fun p pins s σ H Q I q => h.run p pins s σ H Q I (i σ H Q q)⟩
theorem PSw {X : Cx} {e : Stmt} {t t' : TS} (h : PS X e t) (i : ∀ D σ H, t' D σ H → t D σ H) : PS X e t' := ⟨fun pins s σ H Q I q => h.run pins s σ H Q I (i Q σ H q)⟩
theorem PSsw {X : Cx} {e : List Stmt} {t t' : TS} (h : PSs X e t) (i : ∀ D σ H, t' D σ H → t D σ H) : PSs X e t' := ⟨fun pins s σ H Q I q => h.run pins s σ H Q I (i Q σ H q)⟩
section
variable {G : Gc} {E : XK} {η : List Addr} {H : Hp}
theorem FinX.fu {c : Nat} {fs : List (Str × W)} {S' : Store} {η' : List Addr} {H' : Hp} (f : Fu η H η' H') (h : FinX G E η H c fs S') : FinX G E η' H' c fs S' :=
  fun η2 H2 C d vs g => h η2 H2 C d vs (f.trans g)
theorem FinR.fu {α β : Type} {rel : α → List Addr → Hp → β → Prop} {r : R α} {Q : β → Hp → Prop} {η' : List Addr} {H' : Hp} (f : Fu η H η' H') (h : FinR G rel E η H r Q) : FinR G rel E η' H' r Q := by
  cases r with
  | ok w2 S2 => exact fun η2 H2 v2 g => h η2 H2 v2 (f.trans g)
  | exc c fs S2 => exact FinX.fu f h
  | bad => exact h
theorem FinR.bind {α β γ δ : Type} {rel : α → List Addr → Hp → β → Prop} {rel2 : γ → List Addr → Hp → δ → Prop} {r : R α} {k : α → Store → R γ} {Q : δ → Hp → Prop} (h : FinR G rel2 E η H (r.bind k) Q) :
    FinR G rel E η H r fun v H1 => ∃ η1 w S1, Fu η H η1 H1 ∧ Rp G.K η1 H1 S1 ∧ rel w η1 H1 v ∧ FinR G rel2 E η1 H1 (k w S1) Q := by
  cases r with
  | ok w S' => exact fun η' H' v f rp rw_ => ⟨η', w, S', f, rp, rw_, FinR.fu f (show FinR G rel2 E η H (k w S') Q from h)⟩
  | exc c fs S' => exact h
  | bad => exact h
theorem FinR.mono {α β : Type} {rel : α → List Addr → Hp → β → Prop} {r : R α} {Q Q' : β → Hp → Prop} (h : FinR G rel E η H r Q) (i : ∀ v H', Q v H' → Q' v H') : FinR G rel E η H r Q' := by
  cases r with
  | ok w S' => exact fun η' H' v f a b => i v H' (h η' H' v f a b)
  | exc c fs S' => exact h
  | bad => exact h
theorem FinO.fu {r : O} {Q : VK} {η' : List Addr} {H' : Hp} (f : Fu η H η' H') (h : FinO G η H r Q) : FinO G η' H' r Q := by
  cases r with
  | some p => exact fun η2 H2 v2 g => h η2 H2 v2 (f.trans g)
  | none => exact h
theorem FinO.mono {r : O} {Q Q' : VK} (h : FinO G η H r Q) (i : ∀ v H', Q v H' → Q' v H') : FinO G η H r Q' := by
  cases r with
  | some p => exact fun η' H' v f a b => i v H' (h η' H' v f a b)
  | none => exact h
theorem FinS.fu {E : EX} {r : RF} {D : Ends} {η' : List Addr} {H' : Hp} (f : Fu η H η' H') (h : FinS G E η H r D) : FinS G E η' H' r D := by
  cases r with
  | next => exact fun η2 H2 v2 g => h η2 H2 v2 (f.trans g)
  | ret => exact fun η2 H2 v2 g => h η2 H2 v2 (f.trans g)
  | brk => exact fun η2 H2 v2 g => h η2 H2 v2 (f.trans g)
  | cnt => exact fun η2 H2 v2 g => h η2 H2 v2 (f.trans g)
  | exc => exact fun η2 H2 σ C d vs g => h η2 H2 σ C d vs (f.trans g)
  | bad => exact h
/-- an expression ahead of what is done with it -/
def toS {α : Type} (ρ : Rho) (r : R α) (k : α → Store → RF) : RF :=
  match r with
  | .ok a S => k a S
  | .exc c fs S => .exc c fs ρ S
  | .bad => .bad
theorem FinS.bind {α β : Type} {E : EX} {rel : α → List Addr → Hp → β → Prop} {r : R α} {ρ : Rho} {σ : L2.St} {k : α → Store → RF} {D : Ends} (er : ERep G.K η H ρ σ) (h : FinS G E η H (toS ρ r k) D) :
    FinR G rel (E σ) η H r fun v H1 => ∃ η1 w S1, Fu η H η1 H1 ∧ Rp G.K η1 H1 S1 ∧ rel w η1 H1 v ∧ FinS G E η1 H1 (k w S1) D := by
  cases r with
  | ok w S' => exact fun η' H' v f rp rw_ => ⟨η', w, S', f, rp, rw_, FinS.fu f (show FinS G E η H (k w S') D from h)⟩
  | exc c fs S' => exact fun η' H' C d vs f rp hc hd hf => h η' H' σ C d vs f rp (er.fu f) hc hd hf
  | bad => exact h
theorem FinP.lift {o : O} {Q : VK} (h : FinP G E η H (lift o) Q) : FinO G η H o Q := by
  cases o with
  | none => exact h
  | some p => exact h
end
end VI
set_option Elab.async false
set_option linter.all false
set_option maxRecDepth 100000
namespace VI
open PySem PySem.Spec PyProof.Rows L2
abbrev lim : Nat := 16777216
theorem lim_ok {n : Nat} (h : n ≤ lim) : n ≤ sizeLine := by rw [sizeLine_eq]; exact h
abbrev gx (X : Cx) (ct : Nat → Option Addr) : Gc := ⟨X.K, ct⟩

/-! new objects -/
section
variable {K : PySem.W.Frag} {ct : Nat → Option Addr} {η : List Addr} {H : Hp} {S : Store} {Q : VK}
theorem new_list {ds : List PyData} {vs : List V} (rp : Rp K η H S) (r : RepDs K η H ds vs) (h : FinO ⟨K, ct⟩ η H (some (.d (.list ds), S)) Q) : ∀ p, H p = none → Q (.ref p) (upd H p (.lst vs)) := fun p hp =>
  h η _ _ (fu_new hp) (rp.new hp) (.d (.list upd_same (rp.notin hp) (RepDs.fu (fu_new hp) _ _ r)))
theorem new_tup {ds : List PyData} {vs : List V} (rp : Rp K η H S) (r : RepDs K η H ds vs) (h : FinO ⟨K, ct⟩ η H (some (.d (.tuple ds), S)) Q) : ∀ p, H p = none → Q (.ref p) (upd H p (.tup vs)) := fun p hp =>
  h η _ _ (fu_new hp) (rp.new hp) (.d (.tuple (SqT.of upd_same) (RepDs.fu (fu_new hp) _ _ r)))
theorem new_tp {ws : List W} {vs : List V} (rp : Rp K η H S) (r : RepWs K η H ws vs) (h : FinO ⟨K, ct⟩ η H (some (.tp ws, S)) Q) : ∀ p, H p = none → Q (.ref p) (upd H p (.tup vs)) := fun p hp =>
  h η _ _ (fu_new hp) (rp.new hp) (.tp (SqT.of upd_same) (RepWs.fu (fu_new hp) _ _ r))
theorem new_live {ws : List PyData} {vs : List V} (rp : Rp K η H S) (r : RepDs K η H ws vs) (h : FinO ⟨K, ct⟩ η H (some (.loc S.length, S ++ [.lst ws])) Q) : ∀ p, H p = none → Q (.ref p) (upd H p (.lst vs)) := fun p hp =>
  h (η ++ [p]) _ _ (fu_live hp) (rp.live hp ⟨vs, upd_same, RepDs.fu (fu_live hp) _ _ r⟩) (.loc (by rw [← rp.len]; simp))
theorem same_val {w : W} {v : V} (rp : Rp K η H S) (r : RepW K η H w v) (h : FinO ⟨K, ct⟩ η H (some (w, S)) Q) : Q v H := h η H v (Fu.refl _ _) rp r
/-- a live list is written -/
theorem write_list {l : Nat} {a : Addr} {ws : List PyData} {vs : List V} {w : W} {v : V} (rp : Rp K η H S) (ha : η[l]? = some a) (r : RepDs K η H ws vs) (rw_ : RepW K η H w v) (h : FinO ⟨K, ct⟩ η H (some (w, S.set l (.lst ws))) Q) :
    Q v (upd H a (.lst vs)) := by
  have m : a ∈ η := List.mem_of_getElem? ha
  obtain ⟨u, hu, mu⟩ := rp.there m
  have f : Fu η H η (upd H a (.lst vs)) := fu_write m hu mu
  exact h η _ v f (rp.write ha ⟨vs, upd_same, RepDs.fu f _ _ r⟩) (RepW.fu f _ _ rw_)
end

/-! views -/
def asL (w : W) (S : Store) : Option (List PyData) :=
  match w with
  | .d (.list xs) => some xs
  | .loc l => match S[l]? with
    | some (.lst xs) => some xs
    | _ => none
  | _ => none
def asLW (w : W) (S : Store) : Option (List W) :=
  match w with
  | .d (.list xs) => some (xs.map W.d)
  | .loc l => match S[l]? with
    | some (.lst ws) => some (ws.map W.d)
    | _ => none
  | .fro xs => some (xs.map W.d)
  | _ => none
def asTW (w : W) : Option (List W) :=
  match w with
  | .d (.tuple xs) => some (xs.map W.d)
  | .tp ws => some ws
  | _ => none
def mkT (ws : List W) : W :=
  match datas ws with
  | some ds => .d (.tuple ds)
  | none => .tp ws
section
variable {K : PySem.W.Frag} {ct : Nat → Option Addr} {η : List Addr} {H : Hp} {S : Store} {Q : VK} {w : W} {v : V}
theorem asL_ok {xs : List PyData} (e : asL w S = some xs) (rp : Rp K η H S) (r : RepW K η H w v) : ∃ a vs, v = .ref a ∧ H a = some (.lst vs) ∧ RepDs K η H xs vs := by
  cases w with
  | d x =>
    cases r with
    | d r =>
      cases x <;> cases e
      cases r with
      | list h1 h2 h3 => exact ⟨_, _, rfl, h1, h3⟩
  | loc l =>
    cases r with
    | loc r =>
      cases q : S[l]? with
      | none => simp only [asL, q] at e; cases e
      | some o =>
        cases o with
        | lst ws =>
          simp only [asL, q] at e
          cases e
          obtain ⟨vs, h1, h2⟩ := rp.all _ _ _ r q
          exact ⟨_, vs, rfl, h1, h2⟩
        | dK _ => simp only [asL, q] at e; cases e
        | dT _ => simp only [asL, q] at e; cases e
  | tp _ => cases e
  | fro _ => cases e
theorem asLW_ok {xs : List W} (e : asLW w S = some xs) (rp : Rp K η H S) (r : RepW K η H w v) : ∃ a vs, v = .ref a ∧ SqL K H a vs ∧ RepWs K η H xs vs := by
  cases w with
  | d x =>
    cases r with
    | d r =>
      cases x <;> cases e
      cases r with
      | list h1 h2 h3 => exact ⟨_, _, rfl, SqL.of h1, RepWs.ofD h3⟩
  | loc l =>
    cases r with
    | loc r =>
      cases q : S[l]? with
      | none => simp only [asLW, q] at e; cases e
      | some o =>
        cases o with
        | lst ws =>
          simp only [asLW, q] at e
          cases e
          obtain ⟨vs, h1, h2⟩ := rp.all _ _ _ r q
          exact ⟨_, vs, rfl, SqL.of h1, RepWs.ofD h2⟩
        | dK _ => simp only [asLW, q] at e; cases e
        | dT _ => simp only [asLW, q] at e; cases e
  | tp _ => cases e
  | fro _ =>
    cases e
    cases r with
    | fro h1 h2 => exact ⟨_, _, rfl, h1.seq, RepWs.ofD h2⟩
theorem asTW_ok {xs : List W} (e : asTW w = some xs) (r : RepW K η H w v) : ∃ a vs, v = .ref a ∧ SqT K H a vs ∧ RepWs K η H xs vs := by
  cases w with
  | d x =>
    cases r with
    | d r =>
      cases x <;> cases e
      cases r with
      | tuple h1 h2 => exact ⟨_, _, rfl, h1, RepWs.ofD h2⟩
  | loc _ => cases e
  | tp _ =>
    cases e
    cases r with
    | tp h1 h2 => exact ⟨_, _, rfl, h1, h2⟩
  | fro _ => cases e
theorem new_mkT {ws : List W} {vs : List V} (rp : Rp K η H S) (r : RepWs K η H ws vs) (h : FinO ⟨K, ct⟩ η H (some (mkT ws, S)) Q) : ∀ p, H p = none → Q (.ref p) (upd H p (.tup vs)) := by
  unfold mkT at h
  cases q : datas ws with
  | some ds => rw [q] at h; exact new_tup rp (datas_ok q r) h
  | none => rw [q] at h; exact new_tp rp r h
/-- the same tuple, seen anew -/
theorem same_mkT {ws : List W} {vs : List V} {a : Addr} (rp : Rp K η H S) (ha : SqT K H a vs) (r : RepWs K η H ws vs) (h : FinO ⟨K, ct⟩ η H (some (mkT ws, S)) Q) : Q (.ref a) H := by
  unfold mkT at h
  cases q : datas ws with
  | some ds => rw [q] at h; exact same_val rp (.d (.tuple ha (datas_ok q r))) h
  | none => rw [q] at h; exact same_val rp (.tp ha r) h
end

/-! names, constants -/
def fVar (i : Nat) : FE := fun ρ S => match ρ[i]? with
  | some (some w) => .ok w S
  | _ => .bad
def fC (w : PyData) : FE := fun _ S => .ok (.d w) S
section
variable {X : Cx} {ct : Nat → Option Addr} {E : EX}
theorem i_of {e : Expr} {i : Nat} (h : PE X e (tVar i)) : PE X e (tF (gx X ct) E (fVar i)) := PEw h fun σ H Q ⟨η, ρ, S, rp, er, h⟩ => by
  cases q : ρ[i]? with
  | none => simp only [fVar, q] at h; exact h.elim
  | some o =>
    cases o with
    | none => simp only [fVar, q] at h; exact h.elim
    | some w =>
      simp only [fVar, q] at h
      obtain ⟨v, e1, r⟩ := er.2 i w q
      exact ⟨v, e1, h η H v (Fu.refl _ _) rp r⟩
theorem iv (i : Nat) {x : Str} {pos : Pos} (hN : X.N[i]? = some x := by rfl) (hv : Vis X.env.scope x := by first | exact Or.inl rfl | exact Or.inr (Or.inl rfl) | exact Or.inr (Or.inr rfl)) (hd : (x == ("__debug__" : Str)) = false := by decide)
    (hcd : (x == ("__classdict__" : Str)) = false := by decide) : PE X (.Name x pos) (tF (gx X ct) E (fVar i)) := i_of (pe_var hN hv hd hcd)
theorem i_const {e : Expr} {w : PyData} {v : V} (h : PE X e (tC v)) (r : ∀ η H, RepD X.K η H w v) : PE X e (tF (gx X ct) E (fC w)) := PEw h fun σ H Q ⟨η, ρ, S, rp, er, h⟩ => h η H v (Fu.refl _ _) rp (.d (r η H))
theorem ii {i : Int} {j : Nat} {pos : Pos} : PE X (.Constant (.int i) j pos) (tF (gx X ct) E (fC (.int i))) := i_const pe_int fun _ _ => .int _
theorem ib {b : Bool} {j : Nat} {pos : Pos} : PE X (.Constant (.bool b) j pos) (tF (gx X ct) E (fC (.bool b))) := i_const pe_bl fun _ _ => .bool _
theorem inn {j : Nat} {pos : Pos} : PE X (.Constant .none j pos) (tF (gx X ct) E (fC .none)) := i_const pe_non fun _ _ => .none
theorem is {x : Str} {j : Nat} {pos : Pos} : PE X (.Constant (.str x) j pos) (tF (gx X ct) E (fC (.str x))) := i_const pe_str fun _ _ => .str _
/-- a constant of the module -/
theorem ig {x : Str} {v : V} {u : Value} {w : PyData} {pos : Pos} (hg : Gl X x) (hm : X.mg x = some u) (r : RelV v u) (rd : ∀ η H, RepD X.K η H w v) (hd : (x == ("__debug__" : Str)) = false := by decide) : PE X (.Name x pos) (tF (gx X ct) E (fC w)) := i_const (pe_glob hg hm r hd) rd

/-! one and two values -/
def f1 (g : W → Store → O) (a : FE) : FE := fun ρ S => (a ρ S).bind fun x S1 => lift (g x S1)
def f2 (g : W → W → Store → O) (a b : FE) : FE := fun ρ S => (a ρ S).bind fun x S1 => (b ρ S1).bind fun y S2 => lift (g x y S2)
theorem lift_ok {G : Gc} {Z : XK} {η : List Addr} {H : Hp} {o : O} {Q : VK} (h : FinP G Z η H (lift o) Q) : FinO G η H o Q := by
  cases o with
  | none => exact h
  | some p => exact h
def Sim1 (X : Cx) (ct : Nat → Option Addr) (g : W → Store → O) : V → Hp → VK → Prop := fun x H Q => ∃ η S wx, Rp X.K η H S ∧ RepW X.K η H wx x ∧ FinO (gx X ct) η H (g wx S) Q
def Sim2 (X : Cx) (ct : Nat → Option Addr) (g : W → W → Store → O) : R2 := fun x y H Q => ∃ η S wx wy, Rp X.K η H S ∧ RepW X.K η H wx x ∧ RepW X.K η H wy y ∧ FinO (gx X ct) η H (g wx wy S) Q
theorem get1 {a : FE} {g : W → Store → O} {r : V → Hp → VK → Prop} (hr : ∀ x H Q, Sim1 X ct g x H Q → r x H Q) : ∀ σ H Q, tF (gx X ct) E (f1 g a) σ H Q → tF (gx X ct) E a σ H fun x H1 => r x H1 Q := fun σ H Q ⟨η, ρ, S, rp, er, h⟩ =>
  ⟨η, ρ, S, rp, er, FinR.mono (FinR.bind h) fun v H1 ⟨η1, w, S1, f, rp1, r1, h1⟩ => hr _ _ _ ⟨η1, S1, w, rp1, r1, lift_ok h1⟩⟩
theorem get2 {a b : FE} {g : W → W → Store → O} {r : R2} (hr : ∀ x y H Q, Sim2 X ct g x y H Q → r x y H Q) : ∀ σ H Q, tF (gx X ct) E (f2 g a b) σ H Q → tOp r (tF (gx X ct) E a) (tF (gx X ct) E b) σ H Q := fun σ H Q ⟨η, ρ, S, rp, er, h⟩ =>
  ⟨η, ρ, S, rp, er, FinR.mono (FinR.bind h) fun v H1 ⟨η1, w, S1, f, rp1, r1, h1⟩ =>
    ⟨η1, ρ, S1, rp1, er.fu f, FinR.mono (FinR.bind h1) fun v2 H2 ⟨η2, w2, S2, f2, rp2, r2, h2⟩ => hr _ _ _ _ ⟨η2, S2, w, w2, rp2, RepW.fu f2 _ _ r1, r2, lift_ok h2⟩⟩⟩
theorem i_op {op : Operator} {g : W → W → Store → O} {a b : Expr} {fa fb : FE} {pos : Pos} (ho : OpR X (binaryOp op) (Sim2 X ct g)) (ha : PE X a (tF (gx X ct) E fa)) (hb : PE X b (tF (gx X ct) E fb)) : PE X (.BinOp a op b pos) (tF (gx X ct) E (f2 g fa fb)) :=
  PEw (pe_op ho ha hb) (get2 fun _ _ _ _ h => h)
theorem i_cmp {op : CmpOp} {g : W → W → Store → O} {a b : Expr} {fa fb : FE} {pos : Pos} (ho : OpR X (compareOp op) (Sim2 X ct g)) (ha : PE X a (tF (gx X ct) E fa)) (hb : PE X b (tF (gx X ct) E fb)) (hm : behindInMarks op b = false) :
    PE X (.Compare a [op] [b] pos) (tF (gx X ct) E (f2 g fa fb)) := PEw (pe_cmpR ho ha hb hm) (get2 fun _ _ _ _ h => h)
/-- a rule of the layer that the reading fits -/
theorem OpR.fit {f : Value → Value → Sem Value} {r r' : R2} (h : OpR X f r) (i : ∀ x y H Q, r' x y H Q → r x y H Q) : OpR X f r' := fun pins s σ H x y v u Q I rx ry q => h pins s σ H x y v u Q I rx ry (i _ _ _ _ q)

/-! + -/
def gAdd (a b : W) (S : Store) : O :=
  match a, b with
  | .d (.int i), .d (.int j) => some (.d (.int (i + j)), S)
  | .d (.str x), .d (.str y) => if x.length + y.length ≤ lim then some (.d (.str (x ++ y)), S) else none
  | a, b => match asL a S, asL b S with
    | some xs, some ys => if xs.length + ys.length ≤ lim then some (.d (.list (xs ++ ys)), S) else none
    | _, _ => match asTW a, asTW b with
      | some xs, some ys => if xs.length + ys.length ≤ lim then some (mkT (xs ++ ys), S) else none
      | _, _ => none
def gAddInt (a b : W) (S : Store) : O := match a, b with
  | .d (.int i), .d (.int j) => some (.d (.int (i + j)), S)
  | _, _ => none
def gAddStr (a b : W) (S : Store) : O := match a, b with
  | .d (.str x), .d (.str y) => if x.length + y.length ≤ lim then some (.d (.str (x ++ y)), S) else none
  | _, _ => none
def gCat (a b : W) (S : Store) : O := match asL a S, asL b S with
  | some xs, some ys => if xs.length + ys.length ≤ lim then some (.d (.list (xs ++ ys)), S) else none
  | _, _ => none
def gCatT (a b : W) (S : Store) : O := match asTW a, asTW b with
  | some xs, some ys => if xs.length + ys.length ≤ lim then some (mkT (xs ++ ys), S) else none
  | _, _ => none
/-- two ints -/
theorem int2 {g : Int → Int → Option V} {gg : W → W → Store → O} : True := trivial
def gI2 (C : Int → Int → Bool) (g : Int → Int → PyData) (a b : W) (S : Store) : O := match a, b with
  | .d (.int i), .d (.int j) => if C i j = true then some (.d (g i j), S) else none
  | _, _ => none
theorem sim_i2 {f : Value → Value → Sem Value} {C : Int → Int → Bool} {C' : Int → Int → Prop} {g : Int → Int → PyData} {g' : Int → Int → V} (ho : OpR X f (rI C' g')) (hC : ∀ i j, C i j = true → C' i j) (hg : ∀ i j η H, RepD X.K η H (g i j) (g' i j)) : OpR X f (Sim2 X ct (gI2 C g)) :=
  OpR.fit ho fun x y H Q ⟨η, S, wx, wy, rp, rx, ry, h⟩ => by
    cases wx with
    | d x =>
      cases x with
      | int i =>
        cases wy with
        | d y =>
          cases y with
          | int j =>
            cases rx with
            | d rx =>
              cases ry with
              | d ry =>
                cases rx
                cases ry
                simp only [gI2] at h
                split at h
                · exact ⟨i, j, rfl, rfl, hC _ _ (by assumption), same_val rp (.d (hg _ _ _ _)) h⟩
                · exact h.elim
          | _ => exact h.elim
        | _ => exact h.elim
      | _ => exact h.elim
    | _ => exact h.elim
theorem rI0_rI {g : Int → Int → V} {x y : V} {H : Hp} {Q : VK} (h : rI (fun _ _ => True) g x y H Q) : rI0 g x y H Q := by
  obtain ⟨i, j, e1, e2, _, q⟩ := h
  exact ⟨i, j, e1, e2, q⟩
theorem sim_i20 {f : Value → Value → Sem Value} {g : Int → Int → PyData} {g' : Int → Int → V} (ho : OpR X f (rI0 g')) (hg : ∀ i j η H, RepD X.K η H (g i j) (g' i j)) : OpR X f (Sim2 X ct (gI2 (fun _ _ => true) g)) :=
  sim_i2 (C' := fun _ _ => True) (OpR.fit ho fun _ _ _ _ => rI0_rI) (fun _ _ _ => trivial) hg
end
end VI
set_option Elab.async false
set_option linter.all false
set_option maxRecDepth 100000
namespace VI
open PySem PySem.Spec PyProof.Rows L2
section
variable {X : Cx} {ct : Nat → Option Addr} {E : EX}

/-! + of all sorts -/
theorem sim_addStr : OpR X (binaryOp .Add) (Sim2 X ct gAddStr) := OpR.fit op_add_str fun x y H Q ⟨η, S, wx, wy, rp, rx, ry, h⟩ => by
  unfold gAddStr at h
  split at h
  · cases rx with
    | d rx =>
      cases ry with
      | d ry =>
        cases rx
        cases ry
        split at h
        · exact ⟨_, _, rfl, rfl, lim_ok (by assumption), same_val rp (.d (.str _)) h⟩
        · exact h.elim
  · exact h.elim
theorem sim_cat : OpR X (binaryOp .Add) (Sim2 X ct gCat) := OpR.fit op_cat fun x y H Q ⟨η, S, wx, wy, rp, rx, ry, h⟩ => by
  unfold gCat at h
  split at h
  · rename_i xs ys e1 e2
    obtain ⟨a, vs, rfl, h1, r1⟩ := asL_ok e1 rp rx
    obtain ⟨b, us, rfl, h2, r2⟩ := asL_ok e2 rp ry
    split at h
    · rename_i hz
      exact ⟨a, b, vs, us, rfl, rfl, h1, h2, lim_ok (by rw [← r1.length, ← r2.length]; exact hz), new_list rp (r1.append r2) h⟩
    · exact h.elim
  · exact h.elim
theorem repWs_nil_iff {K : PySem.W.Frag} {η : List Addr} {H : Hp} {ws : List W} {vs : List V} (r : RepWs K η H ws vs) : vs = [] ↔ ws = [] := by
  cases r <;> simp
theorem sim_catT : OpR X (binaryOp .Add) (Sim2 X ct gCatT) := OpR.fit op_catA fun x y H Q ⟨η, S, wx, wy, rp, rx, ry, h⟩ => by
  unfold gCatT at h
  split at h
  · rename_i xs ys e1 e2
    obtain ⟨a, vs, rfl, h1, r1⟩ := asTW_ok e1 rx
    obtain ⟨b, us, rfl, h2, r2⟩ := asTW_ok e2 ry
    split at h
    · rename_i hz
      refine ⟨a, b, vs, us, rfl, rfl, h1, h2, lim_ok (by rw [← r1.length, ← r2.length]; exact hz), fun e => ?_, fun _ e => ?_, fun _ _ => new_mkT rp (r1.append r2) h⟩
      · obtain rfl := (repWs_nil_iff r1).mp e
        exact same_mkT rp h2 r2 h
      · obtain rfl := (repWs_nil_iff r2).mp e
        rw [List.append_nil] at h
        exact same_mkT rp h1 r1 h
    · exact h.elim
  · exact h.elim
/-- by cases: where the first has a word, it holds -/
theorem OpR.orElse {f : Value → Value → Sem Value} {g g' : W → W → Store → O} (h : OpR X f (Sim2 X ct g)) (h' : OpR X f (Sim2 X ct g')) : OpR X f (Sim2 X ct fun a b S => match g a b S with
  | some o => some o
  | none => g' a b S) := by
  intro pins s σ H x y v u Q I rx ry ⟨η, S, wx, wy, rp, r1, r2, q⟩
  cases e : g wx wy S with
  | some o => simp only [e] at q; exact h pins s σ H x y v u Q I rx ry ⟨η, S, wx, wy, rp, r1, r2, by rw [e]; exact q⟩
  | none => simp only [e] at q; exact h' pins s σ H x y v u Q I rx ry ⟨η, S, wx, wy, rp, r1, r2, q⟩
theorem OpR.ext {f : Value → Value → Sem Value} {g g' : W → W → Store → O} (h : OpR X f (Sim2 X ct g)) (e : ∀ a b S, g' a b S = none ∨ g' a b S = g a b S) : OpR X f (Sim2 X ct g') := OpR.fit h fun x y H Q ⟨η, S, wx, wy, rp, r1, r2, q⟩ => by
  rcases e wx wy S with z | z
  · rw [z] at q; exact q.elim
  · exact ⟨η, S, wx, wy, rp, r1, r2, by rw [← z]; exact q⟩
theorem sim_addI : OpR X (binaryOp .Add) (Sim2 X ct (gI2 (fun _ _ => true) fun i j => .int (i + j))) := sim_i20 op_add fun _ _ _ _ => .int _
theorem sim_add : OpR X (binaryOp .Add) (Sim2 X ct gAdd) := OpR.ext (OpR.orElse sim_addI (OpR.orElse sim_addStr (OpR.orElse sim_cat sim_catT))) fun a b S => by
  by_cases h1 : ∃ i j, a = .d (.int i) ∧ b = .d (.int j)
  · obtain ⟨i, j, rfl, rfl⟩ := h1
    exact .inr rfl
  by_cases h2 : ∃ x y, a = .d (.str x) ∧ b = .d (.str y)
  · obtain ⟨x, y, rfl, rfl⟩ := h2
    simp only [gAdd, gI2, gAddStr, gCat, gCatT, asL, asTW]
    split
    · exact .inr rfl
    · exact .inl rfl
  have e1 : gI2 (fun _ _ => true) (fun i j => PyData.int (i + j)) a b S = none := by
    unfold gI2
    split
    · exact absurd ⟨_, _, rfl, rfl⟩ h1
    · rfl
  have e2 : gAddStr a b S = none := by
    unfold gAddStr
    split
    · exact absurd ⟨_, _, rfl, rfl⟩ h2
    · rfl
  rw [e1, e2]
  dsimp only
  unfold gAdd gCat gCatT
  split
  · exact absurd ⟨_, _, rfl, rfl⟩ h1
  · exact absurd ⟨_, _, rfl, rfl⟩ h2
  · split
    · rename_i xs ys e3 e4
      split
      · simp
      · exact .inl rfl
    · simp
abbrev gSub := gI2 (fun _ _ => true) fun i j => .int (i - j)
theorem sim_sub : OpR X (binaryOp .Sub) (Sim2 X ct gSub) := sim_i20 op_sub fun _ _ _ _ => .int _
abbrev gMul := gI2 (fun i j => decide (i.natAbs.log2 + j.natAbs.log2 < 1000000)) fun i j => .int (i * j)
theorem sim_mul : OpR X (binaryOp .Mult) (Sim2 X ct gMul) := sim_i2 op_mulW (fun i j h => show i.natAbs.log2 + j.natAbs.log2 < 1000000 from of_decide_eq_true h) fun _ _ _ _ => .int _
abbrev gMod := gI2 (fun _ j => decide (0 < j)) fun i j => .int (i % j)
theorem sim_mod : OpR X (binaryOp .Mod) (Sim2 X ct gMod) := sim_i2 op_mod (fun _ _ h => of_decide_eq_true h) fun _ _ _ _ => .int _
abbrev gDiv := gI2 (fun _ j => decide (0 < j ∧ j < 1073741824)) fun i j => .int (i / j)
theorem sim_div : OpR X (binaryOp .FloorDiv) (Sim2 X ct gDiv) := sim_i2 op_fdiv (fun i j h => show 0 < j ∧ j < 1073741824 from of_decide_eq_true h) fun _ _ _ _ => .int _
abbrev gPow := gI2 (fun i j => decide (0 ≤ j ∧ j ≤ 1000000 ∧ i.natAbs < 18446744073709551616)) fun i j => .int (i ^ j.toNat)
theorem sim_pow : OpR X (binaryOp .Pow) (Sim2 X ct gPow) := sim_i2 op_pow (fun i j h => show 0 ≤ j ∧ j ≤ 1000000 ∧ i.natAbs < 18446744073709551616 from of_decide_eq_true h) fun _ _ _ _ => .int _
/-! comparisons -/
abbrev gLt := gI2 (fun _ _ => true) fun i j => .bool (decide (i < j))
abbrev gLe := gI2 (fun _ _ => true) fun i j => .bool (decide (i ≤ j))
abbrev gGt := gI2 (fun _ _ => true) fun i j => .bool (decide (j < i))
abbrev gGe := gI2 (fun _ _ => true) fun i j => .bool (decide (j ≤ i))
theorem sim_lt : OpR X (compareOp .Lt) (Sim2 X ct gLt) := sim_i20 op_lt fun _ _ _ _ => .bool _
theorem sim_le : OpR X (compareOp .LtE) (Sim2 X ct gLe) := sim_i20 op_le fun _ _ _ _ => .bool _
theorem sim_gt : OpR X (compareOp .Gt) (Sim2 X ct gGt) := sim_i20 op_gt fun _ _ _ _ => .bool _
theorem sim_ge : OpR X (compareOp .GtE) (Sim2 X ct gGe) := sim_i20 op_ge fun _ _ _ _ => .bool _
mutual
/-- pure data of a value -/
def asD (w : W) (S : Store) : Option PyData :=
  match w with
  | .d x => some x
  | .loc l => match S[l]? with
    | some (.lst ds) => some (.list ds)
    | _ => none
  | .tp ws => match asDs ws S with
    | some ds => some (.tuple ds)
    | none => none
  | .fro _ => none
def asDs (ws : List W) (S : Store) : Option (List PyData) :=
  match ws with
  | [] => some []
  | w :: r => match asD w S, asDs r S with
    | some d, some ds => some (d :: ds)
    | _, _ => none
end
mutual
theorem RepD.dp {K : PySem.W.Frag} {η : List Addr} {H : Hp} : ∀ (x : PyData) (v : V), x.hasDict = false → RepD K η H x v → Dp K H v x
  | .none, _, _, h => by cases h; exact .non
  | .bool _, _, _, h => by cases h; exact .bl _
  | .int _, _, _, h => by cases h; exact .int _
  | .str _, _, _, h => by cases h; exact .str _
  | .list ds, _, n, h => by cases h with | list h1 h2 h3 => exact .lst (SqL.of h1) (RepDs.dp ds _ n h3)
  | .tuple ds, _, n, h => by cases h with | tuple h1 h2 => exact .tup h1 (RepDs.dp ds _ n h2)
  | .dict _, _, n, h => by cases n
theorem RepDs.dp {K : PySem.W.Frag} {η : List Addr} {H : Hp} : ∀ (xs : List PyData) (vs : List V), PyData.hasDictAll xs = false → RepDs K η H xs vs → DpAll K H vs xs
  | [], _, _, h => by cases h; exact .nil
  | x :: xs, _, n, h => by
    cases h with
    | cons h1 h2 =>
      have n2 : (PyData.hasDict x || PyData.hasDictAll xs) = false := n
      rw [Bool.or_eq_false_iff] at n2
      exact .cons (RepD.dp x _ n2.1 h1) (RepDs.dp xs _ n2.2 h2)
end
mutual
theorem asD_at {K : PySem.W.Frag} {η : List Addr} {H : Hp} {S : Store} (rp : Rp K η H S) : ∀ (w : W) (v : V) (x : PyData), asD w S = some x → x.hasDict = false → RepW K η H w v → Dp K H v x
  | .d y, v, x, e, n, r => by rw [asD] at e; cases e; cases r with | d r => exact RepD.dp _ _ n r
  | .loc l, v, x, e, n, r => by
    rw [asD] at e
    cases r with
    | loc r =>
      cases q : S[l]? with
      | none => rw [q] at e; cases e
      | some o =>
        rw [q] at e
        cases o with
        | lst ws =>
          cases e
          obtain ⟨vs, h1, h2⟩ := rp.all _ _ _ r q
          exact .lst (SqL.of h1) (RepDs.dp _ _ n h2)
        | dK _ => cases e
        | dT _ => cases e
  | .tp ws, v, x, e, n, r => by
    rw [asD] at e
    cases r with
    | tp h1 h2 =>
      cases q : asDs ws S with
      | none => rw [q] at e; cases e
      | some ds =>
        rw [q] at e
        cases e
        exact .tup h1 (asDs_at rp ws _ ds q n h2)
  | .fro _, v, x, e, n, r => by rw [asD] at e; cases e
theorem asDs_at {K : PySem.W.Frag} {η : List Addr} {H : Hp} {S : Store} (rp : Rp K η H S) : ∀ (ws : List W) (vs : List V) (xs : List PyData), asDs ws S = some xs → PyData.hasDictAll xs = false → RepWs K η H ws vs → DpAll K H vs xs
  | [], vs, xs, e, n, r => by rw [asDs] at e; cases e; cases r; exact .nil
  | w :: ws, vs, xs, e, n, r => by
    rw [asDs] at e
    cases r with
    | cons r1 r2 =>
      split at e
      · rename_i d ds e1 e2
        cases e
        have n2 : (PyData.hasDict d || PyData.hasDictAll ds) = false := n
        rw [Bool.or_eq_false_iff] at n2
        exact .cons (asD_at rp w _ d e1 n2.1 r1) (asDs_at rp ws _ ds e2 n2.2 r2)
      · cases e
end
theorem asD_ok {K : PySem.W.Frag} {η : List Addr} {H : Hp} {S : Store} {w : W} {v : V} {x : PyData} (e : asD w S = some x) (n : x.hasDict = false) (rp : Rp K η H S) (r : RepW K η H w v) : Dp K H v x := asD_at rp w v x e n r
theorem noD_of {x : PyData} (h : SeqAt.shaped x = true) : x.hasDict = false := PyData.hasDict_of_canLay _ (SeqAt.canLay_of_shaped h)
def gEqD (a b : W) (S : Store) : O := match asD a S, asD b S with
  | some x, some y => if SeqAt.shaped x = true ∧ SeqAt.shaped y = true then some (.d (.bool (PyData.eqv x y)), S) else none
  | _, _ => none
def gNeD (a b : W) (S : Store) : O := match asD a S, asD b S with
  | some x, some y => if SeqAt.shaped x = true ∧ SeqAt.shaped y = true then some (.d (.bool (!PyData.eqv x y)), S) else none
  | _, _ => none
/-- two texts, whatever their signs -/
def gEqS (a b : W) (S : Store) : O := match a, b with
  | .d (.str x), .d (.str y) => some (.d (.bool (x == y)), S)
  | _, _ => none
def gNeS (a b : W) (S : Store) : O := match a, b with
  | .d (.str x), .d (.str y) => some (.d (.bool (!(x == y))), S)
  | _, _ => none
def gEq (a b : W) (S : Store) : O := match gEqS a b S with
  | some o => some o
  | none => gEqD a b S
def gNe (a b : W) (S : Store) : O := match gNeS a b S with
  | some o => some o
  | none => gNeD a b S
theorem sim_eqS : OpR X (compareOp .Eq) (Sim2 X ct gEqS) := OpR.fit op_eq fun x y H Q ⟨η, S, wx, wy, rp, rx, ry, h⟩ => by
  unfold gEqS at h
  split at h
  · cases rx with
    | d rx =>
      cases ry with
      | d ry =>
        cases rx
        cases ry
        refine ⟨rfl, ?_⟩
        rw [dec_str]
        exact same_val rp (.d (.bool _)) h
  · exact h.elim
theorem sim_neS : OpR X (compareOp .NotEq) (Sim2 X ct gNeS) := OpR.fit op_ne fun x y H Q ⟨η, S, wx, wy, rp, rx, ry, h⟩ => by
  unfold gNeS at h
  split at h
  · cases rx with
    | d rx =>
      cases ry with
      | d ry =>
        cases rx
        cases ry
        refine ⟨rfl, ?_⟩
        rw [dec_str]
        exact same_val rp (.d (.bool _)) h
  · exact h.elim
theorem sim_eqD (hu : X.A.units + 64 < cLine) : OpR X (compareOp .Eq) (Sim2 X ct gEqD) := OpR.fit (op_eqD hu) fun x y H Q ⟨η, S, wx, wy, rp, rx, ry, h⟩ => by
  unfold gEqD at h
  split at h
  · rename_i d e e1 e2
    split at h
    · rename_i hs
      exact ⟨d, e, asD_ok e1 (noD_of hs.1) rp rx, asD_ok e2 (noD_of hs.2) rp ry, hs.1, hs.2, same_val rp (.d (.bool _)) h⟩
    · exact h.elim
  · exact h.elim
theorem sim_neD (hu : X.A.units + 64 < cLine) : OpR X (compareOp .NotEq) (Sim2 X ct gNeD) := OpR.fit (op_neD hu) fun x y H Q ⟨η, S, wx, wy, rp, rx, ry, h⟩ => by
  unfold gNeD at h
  split at h
  · rename_i d e e1 e2
    split at h
    · rename_i hs
      exact ⟨d, e, asD_ok e1 (noD_of hs.1) rp rx, asD_ok e2 (noD_of hs.2) rp ry, hs.1, hs.2, same_val rp (.d (.bool _)) h⟩
    · exact h.elim
  · exact h.elim
theorem sim_eq (hu : X.A.units + 64 < cLine) : OpR X (compareOp .Eq) (Sim2 X ct gEq) := OpR.orElse sim_eqS (sim_eqD hu)
theorem sim_ne (hu : X.A.units + 64 < cLine) : OpR X (compareOp .NotEq) (Sim2 X ct gNe) := OpR.orElse sim_neS (sim_neD hu)
/-- is None -/
def isNoneW : W → Bool
  | .d .none => true
  | _ => false
def gIsN (a b : W) (S : Store) : O := match b with
  | .d .none => some (.d (.bool (isNoneW a)), S)
  | _ => none
def gNotN (a b : W) (S : Store) : O := match b with
  | .d .none => some (.d (.bool (!isNoneW a)), S)
  | _ => none
theorem isNone_of {K : PySem.W.Frag} {η : List Addr} {H : Hp} {w : W} {v : V} (r : RepW K η H w v) : decide (v = .non) = isNoneW w := by
  cases r with
  | d r => cases r <;> simp [isNoneW]
  | loc _ => simp [isNoneW]
  | tp _ _ => simp [isNoneW]
  | fro _ _ => simp [isNoneW]
theorem sim_isN : OpR X (compareOp .Is) (Sim2 X ct gIsN) := OpR.fit op_isN fun x y H Q ⟨η, S, wx, wy, rp, rx, ry, h⟩ => by
  unfold gIsN at h
  split at h
  · cases ry with
    | d ry =>
      cases ry
      exact ⟨rfl, by rw [isNone_of rx]; exact same_val rp (.d (.bool _)) h⟩
  · exact h.elim
theorem sim_notN : OpR X (compareOp .IsNot) (Sim2 X ct gNotN) := OpR.fit op_notN fun x y H Q ⟨η, S, wx, wy, rp, rx, ry, h⟩ => by
  unfold gNotN at h
  split at h
  · cases ry with
    | d ry =>
      cases ry
      exact ⟨rfl, by rw [isNone_of rx]; exact same_val rp (.d (.bool _)) h⟩
  · exact h.elim
/-- in a list or tuple of flat things -/
def flatD : PyData → Bool
  | .none => true
  | .bool _ => true
  | .int _ => true
  | .str _ => true
  | _ => false
def asSeq (w : W) (S : Store) : Option (List PyData) :=
  match w with
  | .d (.list xs) => some xs
  | .d (.tuple xs) => some xs
  | .loc l => match S[l]? with
    | some (.lst ws) => some ws
    | _ => none
  | .fro xs => some xs
  | _ => none
theorem asSeq_ok {K : PySem.W.Frag} {η : List Addr} {H : Hp} {S : Store} {w : W} {v : V} {xs : List PyData} (e : asSeq w S = some xs) (rp : Rp K η H S) (r : RepW K η H w v) : ∃ a vs, v = .ref a ∧ (SqL K H a vs ∨ SqT K H a vs) ∧ RepDs K η H xs vs := by
  cases w with
  | d x =>
    cases r with
    | d r =>
      cases x <;> cases e
      · cases r with
        | list h1 h2 h3 => exact ⟨_, _, rfl, .inl (SqL.of h1), h3⟩
      · cases r with
        | tuple h1 h2 => exact ⟨_, _, rfl, .inr h1, h2⟩
  | loc l =>
    have e' : asL (.loc l) S = some xs := by
      cases q : S[l]? with
      | none => simp only [asSeq, q] at e; cases e
      | some o =>
        cases o with
        | lst ws => simp only [asSeq, q] at e; simp only [asL, q]; exact e
        | dK _ => simp only [asSeq, q] at e; cases e
        | dT _ => simp only [asSeq, q] at e; cases e
    obtain ⟨a, vs, h1, h2, h3⟩ := asL_ok e' rp r
    exact ⟨a, vs, h1, .inl (SqL.of h2), h3⟩
  | tp _ => cases e
  | fro _ =>
    cases e
    cases r with
    | fro h1 h2 => exact ⟨_, _, rfl, .inl h1.seq, h2⟩
theorem flat_of {K : PySem.W.Frag} {η : List Addr} {H : Hp} : ∀ {d : PyData} {v : V}, RepD K η H d v → flatD d = true → flatV v = true ∧ ∀ {e : PyData} {u : V}, RepD K η H e u → flatD e = true → eqV v u = PyData.eqv d e := by
  intro d v r f
  cases r with
  | none => exact ⟨rfl, fun {e u} r2 f2 => by cases r2 <;> first | rfl | cases f2⟩
  | bool b => exact ⟨rfl, fun {e u} r2 f2 => by cases r2 <;> first | rfl | cases f2⟩
  | int i => exact ⟨rfl, fun {e u} r2 f2 => by cases r2 <;> first | rfl | cases f2⟩
  | str x => exact ⟨rfl, fun {e u} r2 f2 => by cases r2 <;> first | rfl | cases f2⟩
  | list _ _ _ => cases f
  | tuple _ _ => cases f
  | dct _ _ => cases f
  | own _ _ _ => cases f
theorem flats_of {K : PySem.W.Frag} {η : List Addr} {H : Hp} {x : PyData} {v : V} (r : RepD K η H x v) (f : flatD x = true) : ∀ {ds : List PyData} {vs : List V}, RepDs K η H ds vs → ds.all flatD = true → vs.all flatV = true ∧ inV v vs = ds.any fun d => PyData.eqv d x
  | [], _, h, _ => by cases h; exact ⟨rfl, rfl⟩
  | d :: ds, _, h, a => by
    cases h with
    | cons h1 h2 =>
      rw [List.all_cons, Bool.and_eq_true] at a
      obtain ⟨i1, i2⟩ := flats_of r f h2 a.2
      obtain ⟨j1, j2⟩ := flat_of h1 a.1
      refine ⟨by rw [List.all_cons, j1, i1]; rfl, ?_⟩
      unfold inV at i2 ⊢
      rw [List.any_cons, List.any_cons, i2, j2 r f]
def gIn (neg : Bool) (a b : W) (S : Store) : O := match a, asSeq b S with
  | .d x, some xs => if flatD x = true ∧ xs.all flatD = true then some (.d (.bool (if neg then !xs.any (fun d => PyData.eqv d x) else xs.any fun d => PyData.eqv d x)), S) else none
  | _, _ => none
theorem sim_in : OpR X (compareOp .In) (Sim2 X ct (gIn false)) := OpR.fit op_in_seq fun x y H Q ⟨η, S, wx, wy, rp, rx, ry, h⟩ => by
  unfold gIn at h
  split at h
  · rename_i d xs e2
    obtain ⟨a, vs, rfl, h1, r1⟩ := asSeq_ok e2 rp ry
    cases rx with
    | d rx =>
      split at h
      · rename_i hf
        obtain ⟨i1, i2⟩ := flats_of rx hf.1 r1 hf.2
        exact ⟨a, vs, rfl, h1, (flat_of rx hf.1).1, i1, by rw [i2]; exact same_val rp (.d (.bool _)) h⟩
      · exact h.elim
  · exact h.elim
theorem sim_notIn : OpR X (compareOp .NotIn) (Sim2 X ct (gIn true)) := OpR.fit op_notIn_seq fun x y H Q ⟨η, S, wx, wy, rp, rx, ry, h⟩ => by
  unfold gIn at h
  split at h
  · rename_i d xs e2
    obtain ⟨a, vs, rfl, h1, r1⟩ := asSeq_ok e2 rp ry
    cases rx with
    | d rx =>
      split at h
      · rename_i hf
        obtain ⟨i1, i2⟩ := flats_of rx hf.1 r1 hf.2
        exact ⟨a, vs, rfl, h1, (flat_of rx hf.1).1, i1, by rw [i2]; exact same_val rp (.d (.bool _)) h⟩
      · exact h.elim
  · exact h.elim
end
end VI
set_option Elab.async false
set_option linter.all false
set_option maxRecDepth 100000
namespace VI
open PySem PySem.Spec PyProof.Rows L2

/-! subscripts -/
theorem atI_rep {K : PySem.W.Frag} {η : List Addr} {H : Hp} {ws : List W} {vs : List V} (r : RepWs K η H ws vs) {i : Int} {w : W} (e : atI ws i = some w) : ∃ v, atI vs i = some v ∧ RepW K η H w v := by
  unfold atI at e ⊢
  rw [← r.length]
  cases q : ixN ws.length i with
  | none => rw [q] at e; cases e
  | some j =>
    rw [q] at e
    obtain ⟨v, h1, h2⟩ := r.get (show ws[j]? = some w from e)
    exact ⟨v, h1, h2⟩
theorem atI_repD {K : PySem.W.Frag} {η : List Addr} {H : Hp} {ws : List PyData} {vs : List V} (r : RepDs K η H ws vs) {i : Int} {w : PyData} (e : atI ws i = some w) : ∃ v, atI vs i = some v ∧ RepD K η H w v := by
  unfold atI at e ⊢
  rw [← r.length]
  cases q : ixN ws.length i with
  | none => rw [q] at e; cases e
  | some j =>
    rw [q] at e
    obtain ⟨v, h1, h2⟩ := r.get (show ws[j]? = some w from e)
    exact ⟨v, h1, h2⟩
def gIx (a b : W) (S : Store) : O := match b with
  | .d (.int i) => match asSeq a S with
    | some xs => (atI xs i).map fun x => (.d x, S)
    | none => match a with
      | .tp ws => (atI ws i).map fun w => (w, S)
      | .d (.str z) => if z.length ≤ lim then (atI z.cps.toList i).map fun c => (.d (.str ⟨#[c]⟩), S) else none
      | _ => none
  | _ => none
section
variable {X : Cx} {ct : Nat → Option Addr} {E : EX}
theorem ix_any : IxR X (Sim2 X ct gIx) := by
  intro value slice pins s σ H x y v u Q I rx ry ⟨η, S, wx, wy, rp, r1, r2, q⟩ hs
  refine ix_seq value slice pins s σ H x y v u Q I rx ry ?_ hs
  unfold gIx at q
  split at q
  · rename_i i
    cases r2 with
    | d r2 =>
      cases r2
      split at q
      · rename_i ws e
        obtain ⟨a, vs, rfl, h1, h2⟩ := asSeq_ok e rp r1
        cases e2 : atI ws i with
        | none => rw [e2] at q; exact q.elim
        | some w =>
          rw [e2] at q
          obtain ⟨v', g1, g2⟩ := atI_repD h2 e2
          rcases h1 with h1 | h1
          · exact .inl ⟨a, vs, i, v', rfl, rfl, h1, g1, same_val rp (.d g2) q⟩
          · exact .inr (.inl ⟨a, vs, i, v', rfl, rfl, h1, g1, same_val rp (.d g2) q⟩)
      · split at q
        · rename_i ws _
          cases r1 with
          | tp h1 h2 =>
            cases e2 : atI ws i with
            | none => rw [e2] at q; exact q.elim
            | some w =>
              rw [e2] at q
              obtain ⟨v', g1, g2⟩ := atI_rep h2 e2
              exact .inr (.inl ⟨_, _, i, v', rfl, rfl, h1, g1, same_val rp g2 q⟩)
        · rename_i z _
          cases r1 with
          | d r1 =>
            cases r1
            split at q
            · rename_i hz
              cases e2 : atI z.cps.toList i with
              | none => rw [e2] at q; exact q.elim
              | some c =>
                rw [e2] at q
                exact .inr (.inr ⟨z, i, c, rfl, rfl, lim_ok hz, e2, same_val rp (.d (.str _)) q⟩)
            · exact q.elim
        · exact q.elim
  · exact q.elim
theorem i_ix {a b : Expr} {fa fb : FE} {pos : Pos} (ha : PE X a (tF (gx X ct) E fa)) (hb : PE X b (tF (gx X ct) E fb)) (hs : PlainIx b := by intro _ _; rfl) : PE X (.Subscript a b pos) (tF (gx X ct) E (f2 gIx fa fb)) :=
  PEw (pe_ix ix_any ha hb hs) (get2 fun _ _ _ _ h => h)

/-! slices -/
abbrev FO := Rho → Store → R (Option Int)
abbrev relO : Option Int → List Addr → Hp → Option Int → Prop := fun o _ _ v => v = o
def tO (G : Gc) (E : EX) (f : FO) : TO := fun σ H Q => ∃ η ρ S, Rp G.K η H S ∧ ERep G.K η H ρ σ ∧ FinR G relO (E σ) η H (f ρ S) Q
def fNoPart : FO := fun _ S => .ok none S
def intOf (w : W) (S : Store) : R (Option Int) := match w with
  | .d (.int i) => .ok (some i) S
  | _ => .bad
def fPart (a : FE) : FO := fun ρ S => (a ρ S).bind intOf
theorem POw {e : Option Expr} {t t' : TO} (h : PO X e t) (i : ∀ σ H Q, t' σ H Q → t σ H Q) : PO X e t' := ⟨fun pins s σ H Q I q => h.run pins s σ H Q I (i σ H Q q)⟩
theorem o_none : PO X none (tO (gx X ct) E fNoPart) := POw po_none fun σ H Q ⟨η, ρ, S, rp, er, h⟩ => h η H none (Fu.refl _ _) rp rfl
theorem o_some {e : Expr} {f : FE} (h : PE X e (tF (gx X ct) E f)) : PO X (some e) (tO (gx X ct) E (fPart f)) := POw (po_some h) fun σ H Q ⟨η, ρ, S, rp, er, h⟩ =>
  ⟨η, ρ, S, rp, er, FinR.mono (FinR.bind h) fun v H1 ⟨η1, w, S1, f, rp1, r1, h1⟩ => by
    unfold intOf at h1
    split at h1
    · cases r1 with
      | d r1 => cases r1; exact ⟨_, rfl, h1 η1 H1 _ (Fu.refl _ _) rp1 rfl⟩
    · exact h1.elim⟩
def cutG {α : Type} (xs : List α) (lo hi : Option Int) : List α := (xs.drop (HT.sIx xs.length 0 lo)).take (HT.sIx xs.length xs.length hi - HT.sIx xs.length 0 lo)
theorem cut_rep {K : PySem.W.Frag} {η : List Addr} {H : Hp} {ws : List W} {vs : List V} (r : RepWs K η H ws vs) (lo hi : Option Int) : RepWs K η H (cutG ws lo hi) (cutV vs lo hi) := by
  unfold cutG cutV
  rw [← r.length]
  exact (r.drop _).take _
theorem cutG_all {α : Type} (xs : List α) (lo hi : Option Int) (h : HT.sIx xs.length 0 lo = 0 ∧ HT.sIx xs.length xs.length hi = xs.length) : cutG xs lo hi = xs := by
  unfold cutG
  rw [h.1, h.2, List.drop_zero, Nat.sub_zero, List.take_length]
theorem cut_repD {K : PySem.W.Frag} {η : List Addr} {H : Hp} {ws : List PyData} {vs : List V} (r : RepDs K η H ws vs) (lo hi : Option Int) : RepDs K η H (cutG ws lo hi) (cutV vs lo hi) := by
  unfold cutG cutV
  rw [← r.length]
  exact (r.drop _).take _
def gSl (a : W) (lo hi : Option Int) (S : Store) : O := match a with
  | .tp ws => some (mkT (cutG ws lo hi), S)
  | .d (.tuple xs) => some (.d (.tuple (cutG xs lo hi)), S)
  | a => match asSeq a S with
    | some xs => some (.d (.list (cutG xs lo hi)), S)
    | none => none
def SimS (X : Cx) (ct : Nat → Option Addr) (g : W → Option Int → Option Int → Store → O) : V → Option Int → Option Int → Hp → VK → Prop := fun x lo hi H Q => ∃ η S wx, Rp X.K η H S ∧ RepW X.K η H wx x ∧ FinO (gx X ct) η H (g wx lo hi S) Q
/-- a list of the heap, where it is no tuple -/
theorem asSeq_list {K : PySem.W.Frag} {η : List Addr} {H : Hp} {S : Store} {w : W} {v : V} {xs : List PyData} (e : asSeq w S = some xs) (n : ∀ ys, w ≠ .d (.tuple ys)) (rp : Rp K η H S) (r : RepW K η H w v) : ∃ a vs, v = .ref a ∧ SqL K H a vs ∧ RepDs K η H xs vs := by
  cases w with
  | d x =>
    cases r with
    | d r =>
      cases x <;> cases e
      · cases r with
        | list h1 h2 h3 => exact ⟨_, _, rfl, SqL.of h1, h3⟩
      · exact absurd rfl (n _)
  | loc l =>
    cases r with
    | loc r =>
      cases q : S[l]? with
      | none => simp only [asSeq, q] at e; cases e
      | some o =>
        cases o with
        | lst ws =>
          simp only [asSeq, q] at e
          cases e
          obtain ⟨vs, h1, h2⟩ := rp.all _ _ _ r q
          exact ⟨_, vs, rfl, SqL.of h1, h2⟩
        | dK _ => simp only [asSeq, q] at e; cases e
        | dT _ => simp only [asSeq, q] at e; cases e
  | tp _ => cases e
  | fro _ =>
    cases e
    cases r with
    | fro h1 h2 => exact ⟨_, _, rfl, h1.seq, h2⟩
theorem sl_any : SlR X (SimS X ct gSl) := by
  intro pins s σ H x v vl vu lo hi sl Q I rx hs pl pu ⟨η, S, wx, rp, r1, q⟩
  refine (sl_list.or sl_tupA) pins s σ H x v vl vu lo hi sl Q I rx hs pl pu ?_
  unfold gSl at q
  split at q
  · rename_i ws
    cases r1 with
    | tp h1 h2 =>
      refine .inr ⟨_, _, rfl, h1, fun hw => ?_, fun _ => new_mkT rp (cut_rep h2 lo hi) q⟩
      rw [← h2.length] at hw
      rw [cutG_all ws lo hi hw] at q
      exact same_mkT rp h1 h2 q
  · rename_i xs
    cases r1 with
    | d r1 =>
      cases r1 with
      | tuple h1 h2 =>
        refine .inr ⟨_, _, rfl, h1, fun hw => ?_, fun _ => new_tup rp (cut_repD h2 lo hi) q⟩
        rw [← h2.length] at hw
        rw [cutG_all xs lo hi hw] at q
        exact same_val rp (.d (.tuple h1 h2)) q
  · rename_i n2
    split at q
    · rename_i ws e
      obtain ⟨a, vs, rfl, h1, h2⟩ := asSeq_list e (fun ys e => n2 ys e) rp r1
      exact .inl ⟨a, vs, rfl, h1, new_list rp (cut_repD h2 lo hi) q⟩
    · exact q.elim
def fSl (g : W → Option Int → Option Int → Store → O) (a : FE) (lo hi : FO) : FE := fun ρ S => (a ρ S).bind fun x S1 => (lo ρ S1).bind fun l S2 => (hi ρ S2).bind fun u S3 => lift (g x l u S3)
theorem i_sl {e : Expr} {lo hi : Option Expr} {fe : FE} {fl fh : FO} {pos p2 : Pos} (he : PE X e (tF (gx X ct) E fe)) (hl : PO X lo (tO (gx X ct) E fl)) (hu : PO X hi (tO (gx X ct) E fh)) : PE X (.Subscript e (.Slice lo hi none p2) pos) (tF (gx X ct) E (fSl gSl fe fl fh)) :=
  PEw (pe_slice sl_any he hl hu) fun σ H Q ⟨η, ρ, S, rp, er, h⟩ =>
    ⟨η, ρ, S, rp, er, FinR.mono (FinR.bind h) fun v H1 ⟨η1, w, S1, f, rp1, r1, h1⟩ =>
      ⟨η1, ρ, S1, rp1, er.fu f, FinR.mono (FinR.bind h1) fun v2 H2 ⟨η2, l, S2, f2, rp2, r2, h2⟩ =>
        ⟨η2, ρ, S2, rp2, (er.fu f).fu f2, FinR.mono (FinR.bind h2) fun v3 H3 ⟨η3, u, S3, f3, rp3, r3, h3⟩ => by
          obtain rfl : v2 = l := r2
          obtain rfl : v3 = u := r3
          exact ⟨η3, S3, w, rp3, RepW.fu f3 _ _ (RepW.fu f2 _ _ r1), lift_ok h3⟩⟩⟩⟩

/-! argument lists, displays -/
def fA0 : FA := fun _ S => .ok [] S
def fAc (a : FE) (r : FA) : FA := fun ρ S => (a ρ S).bind fun x S1 => (r ρ S1).bind fun xs S2 => .ok (x :: xs) S2
theorem a0 : PA X [] (tA (gx X ct) E fA0) := PAw pa_nil fun σ H Q ⟨η, ρ, S, rp, er, h⟩ => h η H [] (Fu.refl _ _) rp .nil
theorem ac {e : Expr} {es : List Expr} {fa : FE} {fr : FA} (ha : PE X e (tF (gx X ct) E fa)) (hr : PA X es (tA (gx X ct) E fr)) (hs : starEach (e :: es) X.env = (false, eval e X.env) :: starEach es X.env := by rfl) : PA X (e :: es) (tA (gx X ct) E (fAc fa fr)) :=
  PAw (pa_cons ha hr hs) fun σ H Q ⟨η, ρ, S, rp, er, h⟩ =>
    ⟨η, ρ, S, rp, er, FinR.mono (FinR.bind h) fun v H1 ⟨η1, w, S1, f, rp1, r1, h1⟩ =>
      ⟨η1, ρ, S1, rp1, er.fu f, FinR.mono (FinR.bind h1) fun v2 H2 ⟨η2, l, S2, f2, rp2, r2, h2⟩ => h2 η2 H2 _ (Fu.refl _ _) rp2 (.cons (RepW.fu f2 _ _ r1) r2)⟩⟩
/-- what is done with values -/
def fL (g : List W → Store → O) (a : FA) : FE := fun ρ S => (a ρ S).bind fun ws S1 => lift (g ws S1)
def SimL (X : Cx) (ct : Nat → Option Addr) (g : List W → Store → O) : List V → Hp → VK → Prop := fun xs H Q => ∃ η S ws, Rp X.K η H S ∧ RepWs X.K η H ws xs ∧ FinO (gx X ct) η H (g ws S) Q
theorem getL {a : FA} {g : List W → Store → O} {r : List V → Hp → VK → Prop} (hr : ∀ x H Q, SimL X ct g x H Q → r x H Q) : ∀ σ H Q, tF (gx X ct) E (fL g a) σ H Q → tA (gx X ct) E a σ H fun x H1 => r x H1 Q := fun σ H Q ⟨η, ρ, S, rp, er, h⟩ =>
  ⟨η, ρ, S, rp, er, FinR.mono (FinR.bind h) fun v H1 ⟨η1, w, S1, f, rp1, r1, h1⟩ => hr _ _ _ ⟨η1, S1, w, rp1, r1, lift_ok h1⟩⟩
def gTup (ws : List W) (S : Store) : O := if ws.length ≤ lim then some (mkT ws, S) else none
def gLst (ws : List W) (S : Store) : O := if ws.length ≤ lim then (datas ws).map fun ds => (.d (.list ds), S) else none
def gLive (ws : List W) (S : Store) : O := if ws.length ≤ lim then (datas ws).map fun ds => (.loc S.length, S ++ [.lst ds]) else none
theorem i_tup {es : List Expr} {fa : FA} {x1 pos} (h : PA X es (tA (gx X ct) E fa)) : PE X (.Tuple es x1 pos) (tF (gx X ct) E (fL gTup fa)) := PEw (pe_tup h) (getL (r := fun xs H Q => xs.length ≤ sizeLine ∧ ∀ p, H p = none → Q (.ref p) (upd H p (.tup xs))) fun x H Q ⟨η, S, ws, rp, r, q⟩ => by
  unfold gTup at q
  split at q
  · rename_i hz
    exact ⟨lim_ok (by rw [← r.length]; exact hz), new_mkT rp r q⟩
  · exact q.elim)
theorem i_lst {es : List Expr} {fa : FA} {pos} (h : PA X es (tA (gx X ct) E fa)) : PE X (.List es pos) (tF (gx X ct) E (fL gLst fa)) := PEw (pe_lst h) (getL (r := fun xs H Q => xs.length ≤ sizeLine ∧ ∀ p, H p = none → Q (.ref p) (upd H p (.lst xs))) fun x H Q ⟨η, S, ws, rp, r, q⟩ => by
  unfold gLst at q
  split at q
  · rename_i hz
    cases e : datas ws with
    | none => rw [e] at q; exact q.elim
    | some ds => rw [e] at q; exact ⟨lim_ok (by rw [← r.length]; exact hz), new_list rp (datas_ok e r) q⟩
  · exact q.elim)
theorem i_live {es : List Expr} {fa : FA} {pos} (h : PA X es (tA (gx X ct) E fa)) : PE X (.List es pos) (tF (gx X ct) E (fL gLive fa)) := PEw (pe_lst h) (getL (r := fun xs H Q => xs.length ≤ sizeLine ∧ ∀ p, H p = none → Q (.ref p) (upd H p (.lst xs))) fun x H Q ⟨η, S, ws, rp, r, q⟩ => by
  unfold gLive at q
  split at q
  · rename_i hz
    cases e : datas ws with
    | none => rw [e] at q; exact q.elim
    | some ds => rw [e] at q; exact ⟨lim_ok (by rw [← r.length]; exact hz), new_live rp (datas_ok e r) q⟩
  · exact q.elim)

/-! tests -/
def boolW (w : W) (S : Store) : R Bool := match w with
  | .d (.bool b) => .ok b S
  | _ => .bad
def fTest (a : FE) : FT := fun ρ S => (a ρ S).bind boolW
theorem t_val {e : Expr} {f : FE} (h : PE X e (tF (gx X ct) E f)) (he : ∀ whole, isTrue e X.env whole = (do let v ← whole; standAt e.pos; holding [v] (truthy v)) := by intro _; rfl) : PT X e (tT (gx X ct) E (fTest f)) := PTw (pt_val h he) fun σ H Q ⟨η, ρ, S, rp, er, h⟩ =>
  ⟨η, ρ, S, rp, er, FinR.mono (FinR.bind h) fun v H1 ⟨η1, w, S1, f, rp1, r1, h1⟩ => by
    unfold boolW at h1
    split at h1
    · cases r1 with
      | d r1 => cases r1; exact ⟨_, rfl, h1 η1 H1 _ (Fu.refl _ _) rp1 rfl⟩
    · exact h1.elim⟩
theorem t_cmp {op : CmpOp} {g : W → W → Store → O} {a b : Expr} {fa fb : FE} {pos : Pos} (ho : OpR X (compareOp op) (Sim2 X ct g)) (ha : PE X a (tF (gx X ct) E fa)) (hb : PE X b (tF (gx X ct) E fb)) (hm : behindInMarks op b = false) :
    PT X (.Compare a [op] [b] pos) (tT (gx X ct) E (fTest (f2 g fa fb))) := PTw (pt_cmpR ho ha hb hm) fun σ H Q ⟨η, ρ, S, rp, er, h⟩ => by
  have key : tF (gx X ct) E (f2 g fa fb) σ H fun x H' => ∃ k, x = .bl k ∧ Q k H' := ⟨η, ρ, S, rp, er, FinR.mono (FinR.bind h) fun v H1 ⟨η1, w, S1, f, rp1, r1, h1⟩ => by
    unfold boolW at h1
    split at h1
    · cases r1 with
      | d r1 => cases r1; exact ⟨_, rfl, h1 η1 H1 _ (Fu.refl _ _) rp1 rfl⟩
    · exact h1.elim⟩
  exact get2 (fun _ _ _ _ h => h) σ H _ key
/-- a value's truth -/
def truW (w : W) (S : Store) : Option Bool := match w with
  | .d .none => some false
  | .d (.bool b) => some b
  | .d (.int i) => some (i != 0)
  | .d (.str y) => if y.length ≤ lim then some ((y.length : Int) != 0) else none
  | .tp ws => some (!ws.isEmpty)
  | w => match asSeq w S with
    | some ws => some (!ws.isEmpty)
    | none => none
theorem isEmpty_rep {K : PySem.W.Frag} {η : List Addr} {H : Hp} {ws : List W} {vs : List V} (r : RepWs K η H ws vs) : (!ws.isEmpty) = !vs.isEmpty := by
  cases r <;> rfl
theorem isEmpty_repD {K : PySem.W.Frag} {η : List Addr} {H : Hp} {ws : List PyData} {vs : List V} (r : RepDs K η H ws vs) : (!ws.isEmpty) = !vs.isEmpty := by
  cases r <;> rfl
theorem truW_ok {K : PySem.W.Frag} {η : List Addr} {H : Hp} {S : Store} {w : W} {v : V} {b : Bool} (e : truW w S = some b) (rp : Rp K η H S) (r : RepW K η H w v) : TruV K v H b := by
  unfold truW at e
  split at e
  · cases r with | d r => cases r; cases e; rfl
  · cases r with | d r => cases r; cases e; rfl
  · cases r with | d r => cases r; cases e; rfl
  · cases r with
    | d r =>
      cases r
      split at e
      · rename_i hz
        cases e
        exact ⟨lim_ok hz, rfl⟩
      · cases e
  · cases r with
    | tp h1 h2 => cases e; exact .inr (.inl ⟨_, h1, isEmpty_rep h2⟩)
  · split at e
    · rename_i ws e1
      obtain ⟨a, vs, rfl, h1, h2⟩ := asSeq_ok e1 rp r
      cases e
      rcases h1 with h1 | h1
      · exact .inl ⟨vs, h1, isEmpty_repD h2⟩
      · exact .inr (.inl ⟨vs, h1, isEmpty_repD h2⟩)
    · cases e
def truR (w : W) (S : Store) : R Bool := match truW w S with
  | some b => .ok b S
  | none => .bad
def fTru (a : FE) : FT := fun ρ S => (a ρ S).bind truR
theorem t_tru {e : Expr} {f : FE} (h : PE X e (tF (gx X ct) E f)) (he : ∀ whole, isTrue e X.env whole = (do let v ← whole; standAt e.pos; holding [v] (truthy v)) := by intro _; rfl) : PT X e (tT (gx X ct) E (fTru f)) := PTw (pt_truth h he) fun σ H Q ⟨η, ρ, S, rp, er, h⟩ =>
  ⟨η, ρ, S, rp, er, FinR.mono (FinR.bind h) fun v H1 ⟨η1, w, S1, f, rp1, r1, h1⟩ => by
    unfold truR at h1
    split at h1
    · rename_i b e
      exact ⟨b, truW_ok e rp1 r1, h1 η1 H1 _ (Fu.refl _ _) rp1 rfl⟩
    · exact h1.elim⟩
def fAndT (a b : FT) : FT := fun ρ S => (a ρ S).bind fun c S1 => if c = true then b ρ S1 else .ok false S1
def fOrT (a b : FT) : FT := fun ρ S => (a ρ S).bind fun c S1 => if c = true then .ok true S1 else b ρ S1
def fNotT (a : FT) : FT := fun ρ S => (a ρ S).bind fun c S1 => .ok (!c) S1
theorem w_and1 {a : Expr} {f : FT} {pos : Pos} (h : PT X a (tT (gx X ct) E f)) : PW X (.BoolOp .And [a] pos) (tT (gx X ct) E f) := pw_and1 h
theorem w_or1 {a : Expr} {f : FT} {pos : Pos} (h : PT X a (tT (gx X ct) E f)) : PW X (.BoolOp .Or [a] pos) (tT (gx X ct) E f) := pw_or1 h
theorem w_and {a b : Expr} {rest : List Expr} {f g : FT} {pos : Pos} (h : PT X a (tT (gx X ct) E f)) (h2 : PW X (.BoolOp .And (b :: rest) pos) (tT (gx X ct) E g)) : PW X (.BoolOp .And (a :: b :: rest) pos) (tT (gx X ct) E (fAndT f g)) :=
  PWw (pw_and h h2) fun σ H Q ⟨η, ρ, S, rp, er, h⟩ => ⟨η, ρ, S, rp, er, FinR.mono (FinR.bind h) fun v H1 ⟨η1, w, S1, f, rp1, r1, h1⟩ => by
    obtain rfl : v = w := r1
    by_cases hc : v = true
    · rw [if_pos hc] at h1 ⊢; exact ⟨η1, ρ, S1, rp1, er.fu f, h1⟩
    · rw [if_neg hc] at h1 ⊢; exact h1 η1 H1 _ (Fu.refl _ _) rp1 rfl⟩
theorem w_or {a b : Expr} {rest : List Expr} {f g : FT} {pos : Pos} (h : PT X a (tT (gx X ct) E f)) (h2 : PW X (.BoolOp .Or (b :: rest) pos) (tT (gx X ct) E g)) : PW X (.BoolOp .Or (a :: b :: rest) pos) (tT (gx X ct) E (fOrT f g)) :=
  PWw (pw_or h h2) fun σ H Q ⟨η, ρ, S, rp, er, h⟩ => ⟨η, ρ, S, rp, er, FinR.mono (FinR.bind h) fun v H1 ⟨η1, w, S1, f, rp1, r1, h1⟩ => by
    obtain rfl : v = w := r1
    by_cases hc : v = true
    · rw [if_pos hc] at h1 ⊢; exact h1 η1 H1 _ (Fu.refl _ _) rp1 rfl
    · rw [if_neg hc] at h1 ⊢; exact ⟨η1, ρ, S1, rp1, er.fu f, h1⟩⟩
theorem t_not {a : Expr} {f : FT} {pos : Pos} (h : PT X a (tT (gx X ct) E f)) : PT X (.UnaryOp .Not a pos) (tT (gx X ct) E (fNotT f)) :=
  PTw (pt_not h) fun σ H Q ⟨η, ρ, S, rp, er, h⟩ => ⟨η, ρ, S, rp, er, FinR.mono (FinR.bind h) fun v H1 ⟨η1, w, S1, f, rp1, r1, h1⟩ => by
    obtain rfl : v = w := r1
    exact h1 η1 H1 _ (Fu.refl _ _) rp1 rfl⟩
/-- as values -/
def fAndV (a b : FE) : FE := fun ρ S => (a ρ S).bind fun w S1 => match w with
  | .d (.bool true) => b ρ S1
  | .d (.bool false) => .ok (.d (.bool false)) S1
  | _ => .bad
def fOrV (a b : FE) : FE := fun ρ S => (a ρ S).bind fun w S1 => match w with
  | .d (.bool true) => .ok (.d (.bool true)) S1
  | .d (.bool false) => b ρ S1
  | _ => .bad
def gNot (w : W) (S : Store) : O := match w with
  | .d (.bool b) => some (.d (.bool (!b)), S)
  | _ => none
theorem i_one {a : Expr} {op : BoolOp} {f : FE} {pos : Pos} (h : PE X a (tF (gx X ct) E f)) : PE X (.BoolOp op [a] pos) (tF (gx X ct) E f) := pe_one h
theorem i_and {a b : Expr} {rest : List Expr} {f g : FE} {pos : Pos} (h : PE X a (tF (gx X ct) E f)) (h2 : PE X (.BoolOp .And (b :: rest) pos) (tF (gx X ct) E g)) : PE X (.BoolOp .And (a :: b :: rest) pos) (tF (gx X ct) E (fAndV f g)) :=
  PEw (pe_and h h2) fun σ H Q ⟨η, ρ, S, rp, er, h⟩ => ⟨η, ρ, S, rp, er, FinR.mono (FinR.bind h) fun v H1 ⟨η1, w, S1, f, rp1, r1, h1⟩ => by
    split at h1
    · cases r1 with | d r1 => cases r1; exact ⟨true, rfl, iteT ⟨η1, ρ, S1, rp1, er.fu f, h1⟩⟩
    · cases r1 with | d r1 => cases r1; exact ⟨false, rfl, iteF (h1 η1 H1 _ (Fu.refl _ _) rp1 (.d (.bool _)))⟩
    · exact h1.elim⟩
theorem i_or {a b : Expr} {rest : List Expr} {f g : FE} {pos : Pos} (h : PE X a (tF (gx X ct) E f)) (h2 : PE X (.BoolOp .Or (b :: rest) pos) (tF (gx X ct) E g)) : PE X (.BoolOp .Or (a :: b :: rest) pos) (tF (gx X ct) E (fOrV f g)) :=
  PEw (pe_or h h2) fun σ H Q ⟨η, ρ, S, rp, er, h⟩ => ⟨η, ρ, S, rp, er, FinR.mono (FinR.bind h) fun v H1 ⟨η1, w, S1, f, rp1, r1, h1⟩ => by
    split at h1
    · cases r1 with | d r1 => cases r1; exact ⟨true, rfl, iteT (h1 η1 H1 _ (Fu.refl _ _) rp1 (.d (.bool _)))⟩
    · cases r1 with | d r1 => cases r1; exact ⟨false, rfl, iteF ⟨η1, ρ, S1, rp1, er.fu f, h1⟩⟩
    · exact h1.elim⟩
theorem i_not {a : Expr} {f : FE} {pos : Pos} (h : PE X a (tF (gx X ct) E f)) : PE X (.UnaryOp .Not a pos) (tF (gx X ct) E (f1 gNot f)) :=
  PEw (pe_not h) (get1 (r := fun x H Q => ∃ c, x = .bl c ∧ Q (.bl (!c)) H) fun x H Q ⟨η, S, wx, rp, rx, q⟩ => by
    unfold gNot at q
    split at q
    · cases rx with | d rx => cases rx; exact ⟨_, rfl, same_val rp (.d (.bool _)) q⟩
    · exact q.elim)
def fIfE (t : FT) (a b : FE) : FE := fun ρ S => (t ρ S).bind fun c S1 => if c = true then a ρ S1 else b ρ S1
theorem i_ife {c a b : Expr} {t : FT} {f g : FE} {pos : Pos} (hc : PT X c (tT (gx X ct) E t)) (ha : PE X a (tF (gx X ct) E f)) (hb : PE X b (tF (gx X ct) E g)) : PE X (.IfExp c a b pos) (tF (gx X ct) E (fIfE t f g)) :=
  PEw (pe_ifExp hc ha hb) fun σ H Q ⟨η, ρ, S, rp, er, h⟩ => ⟨η, ρ, S, rp, er, FinR.mono (FinR.bind h) fun v H1 ⟨η1, w, S1, f, rp1, r1, h1⟩ => by
    obtain rfl : v = w := r1
    by_cases hc : v = true
    · rw [if_pos hc] at h1 ⊢; exact ⟨η1, ρ, S1, rp1, er.fu f, h1⟩
    · rw [if_neg hc] at h1 ⊢; exact ⟨η1, ρ, S1, rp1, er.fu f, h1⟩⟩
/-- a op b op c -/
def fChain (g g' : W → W → Store → O) (a b c : FE) : FE := fun ρ S => (a ρ S).bind fun x S1 => (b ρ S1).bind fun y S2 => (lift (g x y S2)).bind fun k S3 => match k with
  | .d (.bool true) => (c ρ S3).bind fun z S4 => lift (g' y z S4)
  | .d (.bool false) => .ok (.d (.bool false)) S3
  | _ => .bad
theorem i_chain {op op' : CmpOp} {g g' : W → W → Store → O} {a b c : Expr} {fa fb fc : FE} {pos : Pos} (ho : OpR X (compareOp op) (Sim2 X ct g)) (ho' : OpR X (compareOp op') (Sim2 X ct g')) (ha : PE X a (tF (gx X ct) E fa)) (hb : PE X b (tF (gx X ct) E fb)) (hc : PE X c (tF (gx X ct) E fc))
    (hm : lastMarks [op, op'] [b, c] = false := by with_unfolding_all rfl) : PE X (.Compare a [op, op'] [b, c] pos) (tF (gx X ct) E (fChain g g' fa fb fc)) := PEw (pe_chain ho ho' ha hb hc hm) fun σ H Q ⟨η, ρ, S, rp, er, h⟩ =>
  ⟨η, ρ, S, rp, er, FinR.mono (FinR.bind h) fun v H1 ⟨η1, w, S1, f, rp1, r1, h1⟩ =>
    ⟨η1, ρ, S1, rp1, er.fu f, FinR.mono (FinR.bind h1) fun v2 H2 ⟨η2, w2, S2, f2, rp2, r2, h2⟩ => ⟨η2, S2, w, w2, rp2, RepW.fu f2 _ _ r1, r2, by
      have r1' := RepW.fu f2 _ _ r1
      refine FinO.mono (lift_ok (FinR.bind (rel := relW (gx X ct)) h2)) fun z H3 ⟨η3, k, S3, f3, rp3, r3, h3⟩ => ?_
      split at h3
      · cases r3 with
        | d r3 =>
          cases r3
          exact ⟨true, rfl, iteT ⟨η3, ρ, S3, rp3, ((er.fu f).fu f2).fu f3, FinR.mono (FinR.bind h3) fun v4 H4 ⟨η4, w4, S4, f4, rp4, r4, h4⟩ => ⟨η4, S4, w2, w4, rp4, RepW.fu f4 _ _ (RepW.fu f3 _ _ r2), r4, lift_ok h4⟩⟩⟩
      · cases r3 with
        | d r3 =>
          cases r3
          exact ⟨false, rfl, iteF (h3 η3 H3 _ (Fu.refl _ _) rp3 (.d (.bool _)))⟩
      · exact h3.elim⟩⟩⟩
end
end VI
set_option Elab.async false
set_option linter.all false
set_option maxRecDepth 100000
namespace VI
open PySem PySem.Spec PyProof.Rows L2

/-! what a call hands back, without live objects of its own -/
mutual
def frzW (n : Nat) (S : Store) : W → Option W
  | .d x => some (.d x)
  | .fro x => some (.fro x)
  | .loc l => if l < n then some (.loc l) else match S[l]? with
    | some (.lst ds) => some (.d (.list ds))
    | _ => none
  | .tp ws => (frzWs n S ws).map mkT
def frzWs (n : Nat) (S : Store) : List W → Option (List W)
  | [] => some []
  | w :: ws => match frzW n S w, frzWs n S ws with
    | some w', some ws' => some (w' :: ws')
    | _, _ => none
end
def frz (n : Nat) (r : R W) : R W := match r with
  | .ok w S => match frzW n S w with
    | some w' => .ok w' (S.take n)
    | none => .bad
  | .exc c fs S => match frzWs n S (fs.map (·.2)) with
    | some ws => .exc c ((fs.map (·.1)).zip ws) (S.take n)
    | none => .bad
  | .bad => .bad
section
variable {K : PySem.W.Frag} {η η' : List Addr} {H H' : Hp} {S S' : Store}
mutual
theorem RepD.sub (h : ∀ a ∈ η, a ∈ η') : ∀ (x : PyData) (v : V), RepD K η' H x v → RepD K η H x v
  | .none, _, r => by cases r; exact .none
  | .bool _, _, r => by cases r; exact .bool _
  | .int _, _, r => by cases r; exact .int _
  | .str _, _, r => by cases r; exact .str _
  | .list ds, _, r => by cases r with | list h1 h2 h3 => exact .list h1 (fun m => h2 (h _ m)) (RepDs.sub h ds _ h3)
  | .tuple ds, _, r => by cases r with | tuple h1 h2 => exact .tuple h1 (RepDs.sub h ds _ h2)
  | .dict _, _, r => by
    cases r with
    | dct h1 h2 => exact .dct h1 (fun m => h2 (h _ m))
    | own h1 h2 h3 => exact .own h1 (fun m => h2 (h _ m)) h3
theorem RepDs.sub (h : ∀ a ∈ η, a ∈ η') : ∀ (xs : List PyData) (vs : List V), RepDs K η' H xs vs → RepDs K η H xs vs
  | [], _, r => by cases r; exact .nil
  | x :: xs, _, r => by cases r with | cons h1 h2 => exact .cons (RepD.sub h x _ h1) (RepDs.sub h xs _ h2)
end
theorem RepWs.mk {a : Addr} {ws : List W} {vs : List V} (ha : SqT K H a vs) (r : RepWs K η H ws vs) : RepW K η H (mkT ws) (.ref a) := by
  unfold mkT
  cases q : datas ws with
  | some ds => exact .d (.tuple ha (datas_ok q r))
  | none => exact .tp ha r
mutual
theorem frzW_ok (rp : Rp K (η ++ η') H S) : ∀ (w w' : W) (v : V), frzW η.length S w = some w' → RepW K (η ++ η') H w v → RepW K η H w' v
  | .d x, w', v, e, r => by cases e; cases r with | d r => exact .d (RepD.sub (fun a m => List.mem_append_left _ m) _ _ r)
  | .fro x, w', v, e, r => by cases e; cases r with | fro h1 h2 => exact .fro h1 (RepDs.sub (fun a m => List.mem_append_left _ m) _ _ h2)
  | .loc l, w', v, e, r => by
    cases r with
    | loc r =>
      rw [frzW] at e
      by_cases hl : l < η.length
      · rw [if_pos hl] at e
        cases e
        rw [List.getElem?_append_left hl] at r
        exact .loc r
      · rw [if_neg hl] at e
        cases q : S[l]? with
        | none => rw [q] at e; cases e
        | some o =>
          rw [q] at e
          cases o with
          | lst ds =>
            cases e
            obtain ⟨vs, h1, h2⟩ := rp.all _ _ _ r q
            refine .d (.list h1 (fun m => ?_) (RepDs.sub (fun a m => List.mem_append_left _ m) _ _ h2))
            obtain ⟨j, hj, ej⟩ := List.getElem_of_mem m
            have := nodup_get rp.nd r (show (η ++ η')[j]? = _ by rw [List.getElem?_append_left hj, List.getElem?_eq_getElem hj, ej])
            omega
          | dK _ => cases e
          | dT _ => cases e
  | .tp ws, w', v, e, r => by
    cases r with
    | tp h1 h2 =>
      rw [frzW] at e
      cases q : frzWs η.length S ws with
      | none => rw [q] at e; cases e
      | some ws' => rw [q] at e; cases e; exact RepWs.mk h1 (frzWs_ok rp ws ws' _ q h2)
theorem frzWs_ok (rp : Rp K (η ++ η') H S) : ∀ (ws ws' : List W) (vs : List V), frzWs η.length S ws = some ws' → RepWs K (η ++ η') H ws vs → RepWs K η H ws' vs
  | [], ws', vs, e, r => by cases e; cases r; exact .nil
  | w :: ws, ws', vs, e, r => by
    cases r with
    | cons h1 h2 =>
      rw [frzWs] at e
      split at e
      · rename_i a b e1 e2
        cases e
        exact .cons (frzW_ok rp w a _ e1 h1) (frzWs_ok rp ws b _ e2 h2)
      · cases e
end
theorem frzWs_length : ∀ {n : Nat} {S : Store} {ws ws' : List W}, frzWs n S ws = some ws' → ws'.length = ws.length
  | n, S, [], ws', e => by cases e; rfl
  | n, S, w :: ws, ws', e => by
    rw [frzWs] at e
    split at e
    · rename_i a b e1 e2
      cases e
      rw [List.length_cons, List.length_cons, frzWs_length e2]
    · cases e
theorem Rp.cut (rp : Rp K (η ++ η') H S) : Rp K η H (S.take η.length) := by
  have hl : η.length ≤ S.length := by rw [← rp.len, List.length_append]; omega
  refine ⟨by rw [List.length_take]; omega, (List.nodup_append.mp rp.nd).1, fun l a o h1 h2 => ?_⟩
  have hl1 : l < η.length := (List.getElem?_eq_some_iff.mp h1).1
  rw [List.getElem?_take_of_lt hl1] at h2
  have r := rp.all l a o (by rw [List.getElem?_append_left hl1]; exact h1) h2
  have sub : ∀ a ∈ η, a ∈ η ++ η' := fun a m => List.mem_append_left _ m
  cases o with
  | lst ds => obtain ⟨vs, e, r⟩ := r; exact ⟨vs, e, RepDs.sub sub _ _ r⟩
  | dK kvs => obtain ⟨vs, e, e2, r⟩ := r; exact ⟨vs, e, e2, RepDs.sub sub _ _ r⟩
  | dT kvs => obtain ⟨vs, e, e2, r⟩ := r; exact ⟨vs, e, e2, RepDs.sub sub _ _ r⟩
theorem Fu.cut (f : Fu η H (η ++ η') H') : Fu η H η H' := ⟨⟨[], by simp⟩, fun a h => .inl h, f.tk, f.tp, f.fz, f.ls⟩
theorem FinR.frz {ct : Nat → Option Addr} {Z : XK} {r : R W} {Q : VK} (rp0 : Rp K η H S) (h : FinR ⟨K, ct⟩ (relW ⟨K, ct⟩) Z η H (VI.frz S.length r) Q) : FinR ⟨K, ct⟩ (relW ⟨K, ct⟩) Z η H r Q := by
  cases r with
  | bad => exact h
  | ok w S' =>
    intro η2 H2 v f rp r
    obtain ⟨e, rfl⟩ := f.px
    simp only [VI.frz] at h
    rw [← rp0.len] at h
    cases q : frzW η.length S' w with
    | none => rw [q] at h; exact h.elim
    | some w' =>
      rw [q] at h
      exact h η H2 v f.cut rp.cut (frzW_ok rp w w' v q r)
  | exc c fs S' =>
    intro η2 H2 C d vs f rp hc hd hf
    obtain ⟨e, rfl⟩ := f.px
    simp only [VI.frz] at h
    rw [← rp0.len] at h
    cases q : frzWs η.length S' (fs.map (·.2)) with
    | none => rw [q] at h; exact h.elim
    | some ws =>
      rw [q] at h
      have hl : ws.length = fs.length := by rw [frzWs_length q, List.length_map]
      refine h η H2 C d vs f.cut rp.cut hc hd ⟨?_, ?_⟩
      · rw [List.map_fst_zip (by rw [List.length_map, hl]; exact Nat.le_refl _)]
        exact hf.1
      · rw [List.map_snd_zip (by rw [List.length_map, hl]; exact Nat.le_refl _)]
        exact frzWs_ok rp _ _ _ q hf.2
end

/-! what a def promises, where nothing is being shown -/
structure FnG (P : Program) (w : World) (K : PySem.W.Frag) (mg : Str → Option Value) (base : Heap) (CX : CXT) (k : Nat) (f : Addr) (fd : FuncData) (ps : List Str) (sp : Sp) : Prop where
  len : ∀ vs H Q E, sp vs H Q E → vs.length = ps.length
  run : ∀ (A : Around) (outer : List Env) (s : Shared) (H : Hp) (args : Args) (us : List Value) (vs : List V) (Q : VK) (E : XK), Room k A → A.guards = some [] → Env0 P w K mg base A outer s H → BindsTo s fd args (ps.zip us) → Vals vs us → sp vs H Q E →
    codeAny (model P w) A (.call (.ref f) args) (CR CX outer P w H s Q E) s
theorem deeper_guards {A : Around} {env : Env} (h : A.guards = some []) : (A.deeper env).guards = some [] := h
def spG (G : Gc) (n : Nat) (g : List W → Store → R W) : Sp := fun vs H Q E => vs.length = n ∧ ∃ η S ws, Rp G.K η H S ∧ RepWs G.K η H ws vs ∧ FinR G (relW G) E η H (g ws S) Q
section
variable {X : Cx} {ct : Nat → Option Addr} {CX : CXT} {k : Nat} {f : Addr} {fd : FuncData} {ps : List Str} {sp : Sp} {Z : XK} {x : Str} {p pos : Pos} {e : Expr} {es : List Expr} {ta : TA}
theorem run_fnG {pins : List (Addr × Obj)} {σ : L2.St} {H : Hp} {s : Shared} {Q : VK} {us : List Value} {vs : List V} (F : FnG X.prog X.w X.K X.mg X.base CX k f fd ps sp) (hr : Room k X.A) (hgd : X.A.guards = some []) (hb : Binds X.K fd ps []) (hx : Passes CX X Z)
    (I : Inv X pins σ H s) (r : Vals vs us) (h : sp vs H Q Z) : wpAny (model X.prog X.w) X.A (call (.ref f) us) (EP X pins σ Q) X.xe s := by
  have hl : (us ++ []).length = ps.length := by rw [List.append_nil, ← r.length]; exact F.len _ _ _ _ h
  have hb' := hb s us I.kIn hl
  rw [List.append_nil] at hb'
  refine wpAny_call (codeAny_mono (F.run X.A X.stack s H ⟨us, []⟩ us vs Q Z hr hgd I.env0 hb' r h) fun r s' hq => ?_)
  cases r with
  | error e => exact hx pins σ H s e s' I hq
  | ok fl =>
    cases fl with
    | ret u => exact I.after hq
    | next => exact False.elim hq
    | brk => exact False.elim hq
    | cont => exact False.elim hq
theorem pe_callG (F : FnG X.prog X.w X.K X.mg X.base CX k f fd ps sp) (hr : Room k X.A) (hgd : X.A.guards = some []) (hg : Gl X x) (hm : X.mg x = some (.ref f)) (hk : PySem.W.keepIn X.K (.ref f) = true) (hb : Binds X.K fd ps []) (hx : Passes CX X Z)
    (ha : PA X (e :: es) ta) (hdb : (x == ("__debug__" : Str)) = false := by decide) (he : starEach (e :: es) X.env = (false, eval e X.env) :: starEach es X.env := by rfl) (hpl : (backTo pos (starEach es X.env)).any (·.1) = false := by rfl) :
    PE X (.Call (.Name x p) (e :: es) [] pos) (fun σ H Q => ta σ H fun vs H1 => sp vs H1 Q Z) := by
  refine ⟨fun pins s σ H Q I h => ?_⟩
  refine wpAny_Call_Name_kw (ld_glob I hg hm ?_ hdb)
  refine PySem.W.callWith_K (h₀ := X.base) I.ok.mod.kin hk (thn (ha.run pos pins s σ H _ I h) fun us s1 ⟨vs, H1, I1, r, q⟩ => ⟨I1.kIn, ?_⟩) he hpl
  exact run_fnG F hr hgd hb hx I1 r q
theorem pe_callG0 (F : FnG X.prog X.w X.K X.mg X.base CX k f fd ps sp) (hr : Room k X.A) (hgd : X.A.guards = some []) (hg : Gl X x) (hm : X.mg x = some (.ref f)) (hk : PySem.W.keepIn X.K (.ref f) = true) (hb : Binds X.K fd ps []) (hx : Passes CX X Z)
    (hdb : (x == ("__debug__" : Str)) = false := by decide) : PE X (.Call (.Name x p) [] [] pos) (fun σ H Q => sp [] H Q Z) := by
  refine ⟨fun pins s σ H Q I h => ?_⟩
  refine wpAny_Call_Name_kw (ld_glob I hg hm ?_ hdb)
  exact PySem.W.callWith_K0 I.kIn hk (run_fnG (us := []) F hr hgd hb hx I .nil h)
/-- a call whose live objects end -/
def fCall (n : Nat) (g : List W → Store → R W) (a : FA) : FE := fun ρ S => (a ρ S).bind fun ws S1 => if ws.length = n then frz S1.length (g ws S1) else .bad
/-- .. whose live objects go on -/
def fCallL (n : Nat) (g : List W → Store → R W) (a : FA) : FE := fun ρ S => (a ρ S).bind fun ws S1 => if ws.length = n then g ws S1 else .bad
variable {n : Nat} {g : List W → Store → R W} {fa : FA}
theorem i_callL (F : FnG X.prog X.w X.K X.mg X.base CX k f fd ps (spG (gx X ct) n g)) (hr : Room k X.A) (hgd : X.A.guards = some []) (hg : Gl X x) (hm : X.mg x = some (.ref f)) (hk : PySem.W.keepIn X.K (.ref f) = true) (hb : Binds X.K fd ps []) (hx : Passes CX X Z)
    (ha : PA X (e :: es) (tA (gx X ct) (fun _ => Z) fa)) (hdb : (x == ("__debug__" : Str)) = false := by decide) (he : starEach (e :: es) X.env = (false, eval e X.env) :: starEach es X.env := by rfl) (hpl : (backTo pos (starEach es X.env)).any (·.1) = false := by rfl) :
    PE X (.Call (.Name x p) (e :: es) [] pos) (tF (gx X ct) (fun _ => Z) (fCallL n g fa)) := PEw (pe_callG F hr hgd hg hm hk hb hx ha hdb he hpl) fun σ H Q ⟨η, ρ, S, rp, er, h⟩ =>
  ⟨η, ρ, S, rp, er, FinR.mono (FinR.bind h) fun v H1 ⟨η1, ws, S1, f1, rp1, r1, h1⟩ => by
    by_cases hn : ws.length = n
    · rw [if_pos hn] at h1
      exact ⟨by rw [← r1.length]; exact hn, η1, S1, ws, rp1, r1, h1⟩
    · rw [if_neg hn] at h1
      exact h1.elim⟩
theorem i_call (F : FnG X.prog X.w X.K X.mg X.base CX k f fd ps (spG (gx X ct) n g)) (hr : Room k X.A) (hgd : X.A.guards = some []) (hg : Gl X x) (hm : X.mg x = some (.ref f)) (hk : PySem.W.keepIn X.K (.ref f) = true) (hb : Binds X.K fd ps []) (hx : Passes CX X Z)
    (ha : PA X (e :: es) (tA (gx X ct) (fun _ => Z) fa)) (hdb : (x == ("__debug__" : Str)) = false := by decide) (he : starEach (e :: es) X.env = (false, eval e X.env) :: starEach es X.env := by rfl) (hpl : (backTo pos (starEach es X.env)).any (·.1) = false := by rfl) :
    PE X (.Call (.Name x p) (e :: es) [] pos) (tF (gx X ct) (fun _ => Z) (fCall n g fa)) := PEw (pe_callG F hr hgd hg hm hk hb hx ha hdb he hpl) fun σ H Q ⟨η, ρ, S, rp, er, h⟩ =>
  ⟨η, ρ, S, rp, er, FinR.mono (FinR.bind h) fun v H1 ⟨η1, ws, S1, f1, rp1, r1, h1⟩ => by
    by_cases hn : ws.length = n
    · rw [if_pos hn] at h1
      exact ⟨by rw [← r1.length]; exact hn, η1, S1, ws, rp1, r1, FinR.frz rp1 h1⟩
    · rw [if_neg hn] at h1
      exact h1.elim⟩
end

/-! built-in functions and types, called -/
section
variable {X : Cx} {ct : Nat → Option Addr} {E : EX} {x : Str} {p pos : Pos} {e : Expr} {es : List Expr} {id T : String} {g : List W → Store → O} {fa : FA}
theorem i_callB (hc : CallR X (.builtin id) (SimL X ct g)) (hg : Gl X x) (hm : X.mg x = none) (hv : bootBuiltins x = some (.builtin id)) (ha : PA X (e :: es) (tA (gx X ct) E fa)) (hn : x ≠ "__name__" := by decide) (hdb : (x == ("__debug__" : Str)) = false := by decide)
    (he : starEach (e :: es) X.env = (false, eval e X.env) :: starEach es X.env := by rfl) (hpl : (backTo pos (starEach es X.env)).any (·.1) = false := by rfl) : PE X (.Call (.Name x p) (e :: es) [] pos) (tF (gx X ct) E (fL g fa)) :=
  PEw (pe_callB hc hg hm hv ha hn hdb he hpl) (getL fun _ _ _ h => h)
theorem i_callT (hc : CallR X (.type T) (SimL X ct g)) (hg : Gl X x) (hm : X.mg x = none) (hv : bootBuiltins x = some (.type T)) (ha : PA X (e :: es) (tA (gx X ct) E fa)) (hn : x ≠ "__name__" := by decide) (hdb : (x == ("__debug__" : Str)) = false := by decide)
    (he : starEach (e :: es) X.env = (false, eval e X.env) :: starEach es X.env := by rfl) (hpl : (backTo pos (starEach es X.env)).any (·.1) = false := by rfl) : PE X (.Call (.Name x p) (e :: es) [] pos) (tF (gx X ct) E (fL g fa)) :=
  PEw (pe_callTy hc hg hm hv ha hn hdb he hpl) (getL fun _ _ _ h => h)
theorem CallR.fit {f : Value} {r r' : List V → Hp → VK → Prop} (h : CallR X f r) (i : ∀ xs H Q, r' xs H Q → r xs H Q) : CallR X f r' := fun pins s σ H xs us Q I r q => h pins s σ H xs us Q I r (i _ _ _ q)
theorem repWs1 {K : PySem.W.Frag} {η : List Addr} {H : Hp} {w : W} {vs : List V} (r : RepWs K η H [w] vs) : ∃ v, vs = [v] ∧ RepW K η H w v := by
  cases r with
  | cons h1 h2 => cases h2; exact ⟨_, rfl, h1⟩
theorem repWs2 {K : PySem.W.Frag} {η : List Addr} {H : Hp} {w u : W} {vs : List V} (r : RepWs K η H [w, u] vs) : ∃ v v', vs = [v, v'] ∧ RepW K η H w v ∧ RepW K η H u v' := by
  cases r with
  | cons h1 h2 =>
    obtain ⟨v', rfl, h3⟩ := repWs1 h2
    exact ⟨_, _, rfl, h1, h3⟩
def gLen (ws : List W) (S : Store) : O := match ws with
  | [.d (.str y)] => if y.length ≤ lim then some (.d (.int y.length), S) else none
  | [.tp xs] => some (.d (.int xs.length), S)
  | [w] => match asSeq w S with
    | some xs => some (.d (.int xs.length), S)
    | none => none
  | _ => none
theorem c_len : CallR X (.builtin "len") (SimL X ct gLen) := CallR.fit call_len fun xs H Q ⟨η, S, ws, rp, rr, q⟩ => by
  unfold gLen at q
  split at q
  · obtain ⟨v, rfl, r⟩ := repWs1 rr
    cases r with
    | d r =>
      cases r
      split at q
      · rename_i hz
        exact ⟨_, _, rfl, ⟨lim_ok hz, rfl⟩, same_val rp (.d (.int _)) q⟩
      · exact q.elim
  · obtain ⟨v, rfl, r⟩ := repWs1 rr
    cases r with
    | tp h1 h2 => exact ⟨_, _, rfl, .inr ⟨_, h1, rfl⟩, by rw [← h2.length]; exact same_val rp (.d (.int _)) q⟩
  · obtain ⟨v, rfl, r⟩ := repWs1 rr
    split at q
    · rename_i xs e
      obtain ⟨a, vs, rfl, h1, h2⟩ := asSeq_ok e rp r
      refine ⟨_, vs.length, rfl, ?_, by rw [← h2.length]; exact same_val rp (.d (.int _)) q⟩
      rcases h1 with h1 | h1
      · exact .inl ⟨_, h1, rfl⟩
      · exact .inr ⟨_, h1, rfl⟩
    · exact q.elim
  · exact q.elim
/-- list(x): of pure data -/
def gList (ws : List W) (S : Store) : O := match ws with
  | [w] => match asSeq w S with
    | some xs => some (.d (.list xs), S)
    | none => none
  | _ => none
def gListL (ws : List W) (S : Store) : O := match ws with
  | [w] => match asSeq w S with
    | some xs => some (.loc S.length, S ++ [.lst xs])
    | none => none
  | _ => none
theorem c_list : CallR X (.type "list") (SimL X ct gList) := CallR.fit call_list_of fun xs H Q ⟨η, S, ws, rp, rr, q⟩ => by
  unfold gList at q
  split at q
  · obtain ⟨v, rfl, r⟩ := repWs1 rr
    split at q
    · rename_i xs e
      obtain ⟨a, vs, rfl, h1, h2⟩ := asSeq_ok e rp r
      exact ⟨a, vs, rfl, h1, new_list rp h2 q⟩
    · exact q.elim
  · exact q.elim
theorem c_listL : CallR X (.type "list") (SimL X ct gListL) := CallR.fit call_list_of fun xs H Q ⟨η, S, ws, rp, rr, q⟩ => by
  unfold gListL at q
  split at q
  · obtain ⟨v, rfl, r⟩ := repWs1 rr
    split at q
    · rename_i xs e
      obtain ⟨a, vs, rfl, h1, h2⟩ := asSeq_ok e rp r
      exact ⟨a, vs, rfl, h1, new_live rp h2 q⟩
    · exact q.elim
  · exact q.elim
def gTuple (ws : List W) (S : Store) : O := match ws with
  | [.tp xs] => some (.tp xs, S)
  | [w] => match asSeq w S with
    | some xs => some (.d (.tuple xs), S)
    | none => none
  | _ => none
theorem c_tuple : CallR X (.type "tuple") (SimL X ct gTuple) := CallR.fit call_tuple_of fun xs H Q ⟨η, S, ws, rp, rr, q⟩ => by
  unfold gTuple at q
  split at q
  · obtain ⟨v, rfl, r⟩ := repWs1 rr
    cases r with
    | tp h1 h2 => exact ⟨_, _, rfl, .inr ⟨h1, same_val rp (.tp h1 h2) q⟩⟩
  · obtain ⟨v, rfl, r⟩ := repWs1 rr
    split at q
    · rename_i xs e
      obtain ⟨a, vs, rfl, h1, h2⟩ := asSeq_ok e rp r
      rcases h1 with h1 | h1
      · exact ⟨a, vs, rfl, .inl ⟨h1, new_tup rp h2 q⟩⟩
      · exact ⟨a, vs, rfl, .inr ⟨h1, same_val rp (.d (.tuple h1 h2)) q⟩⟩
    · exact q.elim
  · exact q.elim
def gAbs (ws : List W) (S : Store) : O := match ws with
  | [.d (.int i)] => some (.d (.int (if i < 0 then -i else i)), S)
  | _ => none
theorem c_abs : CallR X (.builtin "abs") (SimL X ct gAbs) := CallR.fit call_abs fun xs H Q ⟨η, S, ws, rp, rr, q⟩ => by
  unfold gAbs at q
  split at q
  · obtain ⟨v, rfl, r⟩ := repWs1 rr
    cases r with | d r => cases r; exact ⟨_, rfl, same_val rp (.d (.int _)) q⟩
  · exact q.elim
def gInt (ws : List W) (S : Store) : O := match ws with
  | [.d (.int i)] => some (.d (.int i), S)
  | [.d (.bool b)] => some (.d (.int (if b then 1 else 0)), S)
  | _ => none
theorem c_int : CallR X (.type "int") (SimL X ct gInt) := CallR.fit call_int1 fun xs H Q ⟨η, S, ws, rp, rr, q⟩ => by
  unfold gInt at q
  split at q
  · obtain ⟨v, rfl, r⟩ := repWs1 rr
    cases r with | d r => cases r; exact .inl ⟨_, rfl, same_val rp (.d (.int _)) q⟩
  · obtain ⟨v, rfl, r⟩ := repWs1 rr
    cases r with | d r => cases r; exact .inr ⟨_, rfl, same_val rp (.d (.int _)) q⟩
  · exact q.elim
def gMax2 (ws : List W) (S : Store) : O := match ws with
  | [.d (.int i), .d (.int j)] => some (.d (.int (if j > i then j else i)), S)
  | _ => none
theorem c_max2 (hc : X.calm = true) : CallR X (.builtin "max") (SimL X ct gMax2) := CallR.fit (call_max2 hc) fun xs H Q ⟨η, S, ws, rp, rr, q⟩ => by
  unfold gMax2 at q
  split at q
  · obtain ⟨v, v', rfl, r, r'⟩ := repWs2 rr
    cases r with
    | d r =>
      cases r' with
      | d r' =>
        cases r
        cases r'
        exact ⟨_, _, rfl, same_val rp (.d (.int _)) q⟩
  · exact q.elim
/-- the ints of a list -/
def intsD : List PyData → Option (List Int)
  | [] => some []
  | .int i :: r => (intsD r).map (i :: ·)
  | _ :: _ => none
theorem intsD_ok {K : PySem.W.Frag} {η : List Addr} {H : Hp} : ∀ {ds : List PyData} {vs : List V} {ns : List Int}, intsD ds = some ns → RepDs K η H ds vs → vs = ns.map V.int
  | [], vs, ns, e, r => by cases e; cases r; rfl
  | .int i :: ds, vs, ns, e, r => by
    cases r with
    | cons h1 h2 =>
      cases h1
      cases q : intsD ds with
      | none => rw [intsD, q] at e; cases e
      | some ms => rw [intsD, q] at e; cases e; rw [intsD_ok q h2]; rfl
  | .none :: _, vs, ns, e, r => by cases e
  | .bool _ :: _, vs, ns, e, r => by cases e
  | .str _ :: _, vs, ns, e, r => by cases e
  | .list _ :: _, vs, ns, e, r => by cases e
  | .tuple _ :: _, vs, ns, e, r => by cases e
  | .dict _ :: _, vs, ns, e, r => by cases e
theorem intsD_map : ∀ ns : List Int, intsD (ns.map PyData.int) = some ns
  | [] => rfl
  | x :: xs => by rw [List.map_cons, intsD, intsD_map xs]; rfl
def asLst (w : W) (S : Store) : Option (List PyData) := match w with
  | .d (.tuple _) => none
  | w => asSeq w S
theorem asLst_ok {K : PySem.W.Frag} {η : List Addr} {H : Hp} {S : Store} {w : W} {v : V} {xs : List PyData} (e : asLst w S = some xs) (rp : Rp K η H S) (r : RepW K η H w v) : ∃ a vs, v = .ref a ∧ SqL K H a vs ∧ RepDs K η H xs vs := by
  unfold asLst at e
  split at e
  · cases e
  · rename_i n
    exact asSeq_list e (fun ys q => n ys q) rp r
def gSum (ws : List W) (S : Store) : O := match ws with
  | [w] => match asLst w S with
    | some xs => match intsD xs with
      | some ns => some (.d (.int ns.sum), S)
      | none => none
    | none => none
  | _ => none
theorem c_sum (hc : X.calm = true) : CallR X (.builtin "sum") (SimL X ct gSum) := CallR.fit (cr_sum hc) fun xs H Q ⟨η, S, ws, rp, rr, q⟩ => by
  unfold gSum at q
  split at q
  · obtain ⟨v, rfl, r⟩ := repWs1 rr
    split at q
    · rename_i xs e
      obtain ⟨a, vs, rfl, h1, h2⟩ := asLst_ok e rp r
      split at q
      · rename_i ns e2
        have := intsD_ok e2 h2
        subst this
        exact ⟨a, ns, rfl, h1, same_val rp (.d (.int _)) q⟩
      · exact q.elim
    · exact q.elim
  · exact q.elim
/-! repr -/
theorem isRef_of {h : Heap} {u : Value} {d : PyData} {as : List Addr} (r : Reads h u d as) : (∃ a, u = .ref a) ∨ (d = .none ∧ u = .none) ∨ (∃ b, d = .bool b ∧ u = .bool b) ∨ (∃ i t, d = .int i ∧ u = .int i t) ∨ ∃ x t, d = .str x ∧ u = .str x t := by
  cases r with
  | none => exact .inr (.inl ⟨rfl, rfl⟩)
  | bool b => exact .inr (.inr (.inl ⟨b, rfl, rfl⟩))
  | int i t => exact .inr (.inr (.inr (.inl ⟨i, t, rfl, rfl⟩)))
  | str x t => exact .inr (.inr (.inr (.inr ⟨x, t, rfl, rfl⟩)))
  | list _ _ _ _ => exact .inl ⟨_, rfl⟩
  | tuple _ _ _ _ => exact .inl ⟨_, rfl⟩
  | dict _ _ _ _ _ => exact .inl ⟨_, rfl⟩
def noDict (d : PyData) : Bool := !d.hasDict
def gRepr (ws : List W) (S : Store) : O := match ws with
  | [w] => match asD w S with
    | some d => if d.showable = true ∧ d.hasDict = false ∧ d.depth ≤ 64 ∧ d.shown.length ≤ lim then some (.d (.str d.shown), S) else none
    | none => none
  | _ => none
theorem c_repr (hg : X.A.guards = some []) (hu : X.A.units + 65 < cLine) : CallR X (.builtin "repr") (SimL X ct gRepr) := by
  intro pins s σ H xs us Q I rv ⟨η, S, ws, rp, rr, q⟩
  unfold gRepr at q
  split at q
  · obtain ⟨v, rfl, r⟩ := repWs1 rr
    obtain ⟨u, rfl, ru⟩ := vals1 rv
    split at q
    · rename_i d e
      split at q
      · rename_i hz
        obtain ⟨hs, hd, hk, hz⟩ := hz
        have q' : Q (.str d.shown) H := same_val rp (.d (.str _)) q
        obtain ⟨as, rd⟩ := Dp.reads I d v u (asD_ok e hd rp r) ru
        rcases isRef_of rd with ⟨a, rfl⟩ | ⟨rfl, rfl⟩ | ⟨b, rfl, rfl⟩ | ⟨i, t, rfl, rfl⟩ | ⟨x, t, rfl, rfl⟩
        · exact repr_of_reads' rd hs (PyData.noDict_hsm hd) hg (by omega) (fun _ _ e => e) (fun h' u tk hk => ⟨.str d.shown, H, I.kept hk, ⟨_, rfl⟩, q'⟩) (lim_ok hz)
        · exact PySem.P.repr_of_none ⟨.str (PyData.shown .none), H, I.tok _, ⟨_, rfl⟩, q'⟩
        · exact PySem.P.repr_of_bool ⟨.str (PyData.shown (.bool b)), H, I.tok _, ⟨_, by cases b <;> rfl⟩, q'⟩
        · exact PySem.P.repr_of_int (of_decide_eq_true hs) ⟨.str (PyData.shown (.int i)), H, I.tok _, ⟨_, rfl⟩, q'⟩
        · exact PySem.P.repr_of_str ⟨.str (PyData.shown (.str x)), H, I.tok _, ⟨_, rfl⟩, q'⟩ (lim_ok hz)
      · exact q.elim
    · exact q.elim
  · exact q.elim
end
end VI
set_option Elab.async false
set_option linter.all false
set_option maxRecDepth 100000
namespace VI
open PySem PySem.Spec PyProof.Rows L2

/-! targets -/
abbrev FG := W → Rho → Option Rho
abbrev FGs := List W → Rho → Option Rho
def tG (G : Gc) (g : FG) : TG := fun v σ H Q => ∃ η ρ w ρ', RepW G.K η H w v ∧ ERep G.K η H ρ σ ∧ g w ρ = some ρ' ∧ ∀ σ', ERep G.K η H ρ' σ' → Q σ' H
def tGs (G : Gc) (g : FGs) : TGs := fun vs σ H Q => ∃ η ρ ws ρ', RepWs G.K η H ws vs ∧ ERep G.K η H ρ σ ∧ g ws ρ = some ρ' ∧ ∀ σ', ERep G.K η H ρ' σ' → Q σ' H
theorem PGw {X : Cx} {e : Expr} {t t' : TG} (h : PG X e t) (i : ∀ v σ H Q, t' v σ H Q → t v σ H Q) : PG X e t' := ⟨fun pins s σ H v u Q I r q => h.run pins s σ H v u Q I r (i v σ H Q q)⟩
theorem PGsw {X : Cx} {e : List Expr} {t t' : TGs} (h : PGs X e t) (i : ∀ v σ H Q, t' v σ H Q → t v σ H Q) : PGs X e t' := ⟨fun pins s σ H v u Q I r q => h.run pins s σ H v u Q I r (i v σ H Q q)⟩
def gtName (i : Nat) : FG := fun w ρ => some (ρ.set i (some w))
def gtNil : FGs := fun ws ρ => match ws with
  | [] => some ρ
  | _ => none
def gtCons (g : FG) (r : FGs) : FGs := fun ws ρ => match ws with
  | w :: ws => match g w ρ with
    | some ρ1 => r ws ρ1
    | none => none
  | [] => none
def gtTup (n : Nat) (r : FGs) : FG := fun w ρ => match asTW w with
  | some ws => if ws.length = n then r ws ρ else none
  | none => none
section
variable {X : Cx} {ct : Nat → Option Addr} {E : EX}
theorem g_name (i : Nat) {x : Str} {pos : Pos} (hN : X.N.Nodup) (hi : X.N[i]? = some x := by rfl) (hx : Loc X.env.scope x := by first | exact Or.inl rfl | exact Or.inr rfl) (hf : X.fn x = true ∨ X.env.scope.names.lookup x = some .local := by first | exact .inl rfl | exact .inr rfl) :
    PG X (.Name x pos) (tG (gx X ct) (gtName i)) := PGw (pg_name hN hi hx hf) fun v σ H Q ⟨η, ρ, w, ρ', r, er, e, h⟩ => by
  cases e
  exact h _ (er.set r)
theorem gs_nil : PGs X [] (tGs (gx X ct) gtNil) := PGsw pgs_nil fun v σ H Q ⟨η, ρ, w, ρ', r, er, e, h⟩ => by
  unfold gtNil at e
  split at e
  · cases e
    cases r
    exact ⟨rfl, h _ er⟩
  · cases e
theorem gs_cons {e : Expr} {es : List Expr} {g : FG} {gs : FGs} (h1 : PG X e (tG (gx X ct) g)) (h2 : PGs X es (tGs (gx X ct) gs)) (hs : (assignEach (e :: es) X.env).map (·.2) = assign e X.env :: (assignEach es X.env).map (·.2) := by rfl) :
    PGs X (e :: es) (tGs (gx X ct) (gtCons g gs)) := PGsw (pgs_cons h1 h2 hs) fun v σ H Q ⟨η, ρ, w, ρ', r, er, e, h⟩ => by
  unfold gtCons at e
  split at e
  · rename_i w0 ws
    cases r with
    | cons r1 r2 =>
      split at e
      · rename_i ρ1 e1
        exact ⟨_, _, rfl, η, ρ, w0, ρ1, r1, er, e1, fun σ1 er1 => ⟨η, ρ1, ws, ρ', r2, er1, e, h⟩⟩
      · cases e
  · cases e
theorem g_tup {es : List Expr} {k n : Nat} {pos : Pos} {gs : FGs} (hc : X.calm = true) (h : PGs X es (tGs (gx X ct) gs)) (hn : (assignEach es X.env).length = n := by rfl) (hst : (assignEach es X.env).findIdx? (·.1) = none := by rfl) :
    PG X (.Tuple es k pos) (tG (gx X ct) (gtTup n gs)) := PGw (pg_tup hc h hn hst) fun v σ H Q ⟨η, ρ, w, ρ', r, er, e, h⟩ => by
  unfold gtTup at e
  split at e
  · rename_i ws e1
    obtain ⟨a, vs, rfl, h1, h2⟩ := asTW_ok e1 r
    split at e
    · rename_i hl
      exact ⟨a, vs, rfl, h1, by rw [← h2.length]; exact hl, η, ρ, ws, ρ', h2, er, e, h⟩
    · cases e
  · cases e

/-! small statements -/
def fNext : FS := fun ρ S => .next ρ S
def fSeq (a b : FS) : FS := fun ρ S => match a ρ S with
  | .next ρ1 S1 => b ρ1 S1
  | r => r
theorem s_nil : PSs X [] (tS (gx X ct) E fNext) := PSsw pss_nil fun D σ H ⟨η, ρ, S, rp, er, h⟩ => h η H σ (Fu.refl _ _) rp er
theorem s_one {st : Stmt} {f : FS} (h : PS X st (tS (gx X ct) E f)) : PSs X [st] (tS (gx X ct) E f) := pss_one h
theorem s_cons {st : Stmt} {rest : List Stmt} {f g : FS} (h : PS X st (tS (gx X ct) E f)) (h2 : PSs X rest (tS (gx X ct) E g)) : PSs X (st :: rest) (tS (gx X ct) E (fSeq f g)) := PSsw (pss_cons h h2) fun D σ H ⟨η, ρ, S, rp, er, h⟩ => by
  refine ⟨η, ρ, S, rp, er, ?_⟩
  unfold fSeq at h
  cases e : f ρ S with
  | next ρ1 S1 => rw [e] at h; exact fun η1 H1 σ1 f1 rp1 er1 => ⟨η1, ρ1, S1, rp1, er1, FinS.fu f1 h⟩
  | ret w S1 => rw [e] at h; exact h
  | brk ρ1 S1 => rw [e] at h; exact h
  | cnt ρ1 S1 => rw [e] at h; exact h
  | exc c fs ρ1 S1 => rw [e] at h; exact h
  | bad => rw [e] at h; exact h
def fBrk : FS := fun ρ S => .brk ρ S
def fCnt : FS := fun ρ S => .cnt ρ S
theorem s_pass {pos : Pos} : PS X (.Pass pos) (tS (gx X ct) E fNext) := PSw ps_pass fun D σ H ⟨η, ρ, S, rp, er, h⟩ => h η H σ (Fu.refl _ _) rp er
theorem s_brk {pos : Pos} : PS X (.Break pos) (tS (gx X ct) E fBrk) := PSw ps_break fun D σ H ⟨η, ρ, S, rp, er, h⟩ => h η H σ (Fu.refl _ _) rp er
theorem s_cnt {pos : Pos} : PS X (.Continue pos) (tS (gx X ct) E fCnt) := PSw ps_continue fun D σ H ⟨η, ρ, S, rp, er, h⟩ => h η H σ (Fu.refl _ _) rp er
def fDrop (a : FE) : FS := fun ρ S => toS ρ (a ρ S) fun _ S1 => .next ρ S1
theorem s_expr {e : Expr} {pos : Pos} {f : FE} (he : PE X e (tF (gx X ct) E f)) (hs : swapsWith e none pos.line X.env = pure false := by rfl) : PS X (.Expr e pos) (tS (gx X ct) E (fDrop f)) := PSw (ps_expr he hs) fun D σ H ⟨η, ρ, S, rp, er, h⟩ =>
  ⟨η, ρ, S, rp, er, FinR.mono (FinS.bind er h) fun v H1 ⟨η1, w, S1, f1, rp1, r1, h1⟩ => h1 η1 H1 σ (Fu.refl _ _) rp1 (er.fu f1)⟩
def fRet (a : FE) : FS := fun ρ S => toS ρ (a ρ S) fun w S1 => .ret w S1
theorem s_ret {e : Expr} {pos : Pos} {f : FE} (he : PE X e (tF (gx X ct) E f)) : PS X (.Return (some e) pos) (tS (gx X ct) E (fRet f)) := PSw (ps_ret he) fun D σ H ⟨η, ρ, S, rp, er, h⟩ =>
  ⟨η, ρ, S, rp, er, FinR.mono (FinS.bind er h) fun v H1 ⟨η1, w, S1, f1, rp1, r1, h1⟩ => h1 η1 H1 v (Fu.refl _ _) rp1 r1⟩
def fRetN : FS := fun ρ S => .ret (.d .none) S
theorem s_retN {pos : Pos} : PS X (.Return none pos) (tS (gx X ct) E fRetN) := PSw ps_retN fun D σ H ⟨η, ρ, S, rp, er, h⟩ => h η H .non (Fu.refl _ _) rp (.d .none)
def fIf (c : FT) (a b : FS) : FS := fun ρ S => toS ρ (c ρ S) fun k S1 => if k = true then a ρ S1 else b ρ S1
theorem s_if {c : Expr} {a b : List Stmt} {pos : Pos} {t : FT} {f g : FS} (hc : PT X c (tT (gx X ct) E t)) (ha : PSs X a (tS (gx X ct) E f)) (hb : PSs X b (tS (gx X ct) E g)) : PS X (.If c a b pos) (tS (gx X ct) E (fIf t f g)) :=
  PSw (ps_if hc ha hb) fun D σ H ⟨η, ρ, S, rp, er, h⟩ => ⟨η, ρ, S, rp, er, FinR.mono (FinS.bind (rel := relB) er h) fun v H1 ⟨η1, w, S1, f1, rp1, r1, h1⟩ => by
    obtain rfl : v = w := r1
    by_cases hv : v = true
    · rw [if_pos hv] at h1 ⊢; exact ⟨η1, ρ, S1, rp1, er.fu f1, h1⟩
    · rw [if_neg hv] at h1 ⊢; exact ⟨η1, ρ, S1, rp1, er.fu f1, h1⟩⟩
/-- target = value -/
def fAsg (a : FE) (g : FG) : FS := fun ρ S => toS ρ (a ρ S) fun w S1 => match g w ρ with
  | some ρ1 => .next ρ1 S1
  | none => .bad
theorem asg_key {f : FE} {g : FG} {D : Ends} {σ : L2.St} {H : Hp} (h : tS (gx X ct) E (fAsg f g) D σ H) : tF (gx X ct) E f σ H fun x H1 => tG (gx X ct) g x σ H1 D.nx := by
  obtain ⟨η, ρ, S, rp, er, h⟩ := h
  exact ⟨η, ρ, S, rp, er, FinR.mono (FinS.bind er h) fun v H1 ⟨η1, w, S1, f1, rp1, r1, h1⟩ => by
    split at h1
    · rename_i ρ1 e
      exact ⟨η1, ρ, w, ρ1, r1, er.fu f1, e, fun σ' er' => h1 η1 H1 σ' (Fu.refl _ _) rp1 er'⟩
    · exact h1.elim⟩
theorem s_asg {tg e : Expr} {pos : Pos} {f : FE} {g : FG} (he : PE X e (tF (gx X ct) E f)) (hg : PG X tg (tG (gx X ct) g)) (hs : swapsWithSole [tg] e pos.line X.env = pure false := by rfl) (hw : swappedStores [tg] e X.env = pure none := by rfl)
    (h1 : (assignEach [tg] X.env).map (·.2) = [assign tg X.env] := by rfl) : PS X (.Assign [tg] e pos) (tS (gx X ct) E (fAsg f g)) := PSw (ps_asg he hg hs hw h1) fun D σ H h => asg_key h
theorem s_set (i : Nat) {x : Str} {e : Expr} {pos pos' : Pos} {f : FE} (hN : X.N.Nodup) (he : PE X e (tF (gx X ct) E f)) (hi : X.N[i]? = some x := by rfl) (hx : Loc X.env.scope x := by first | exact Or.inl rfl | exact Or.inr rfl) (hs : swapsWith e (some (.Name x pos')) pos.line X.env = pure false := by rfl)
    (hf : X.fn x = true ∨ X.env.scope.names.lookup x = some .local := by first | exact .inl rfl | exact .inr rfl) : PS X (.Assign [.Name x pos'] e pos) (tS (gx X ct) E (fAsg f (gtName i))) := PSw (ps_set hN hi hx he hs hf) fun D σ H ⟨η, ρ, S, rp, er, h⟩ =>
  ⟨η, ρ, S, rp, er, FinR.mono (FinS.bind er h) fun v H1 ⟨η1, w, S1, f1, rp1, r1, h1⟩ => h1 η1 H1 _ (Fu.refl _ _) rp1 ((er.fu f1).set r1)⟩
/-- x op= e: + of ints -/
def fAug (i : Nat) (g : W → W → Store → O) (a : FE) : FS := fun ρ S => match ρ[i]? with
  | some (some w) => toS ρ (a ρ S) fun u S1 => match g w u S1 with
    | some (z, S2) => .next (ρ.set i (some z)) S2
    | none => .bad
  | _ => .bad
theorem s_aug (i : Nat) {x : Str} {e : Expr} {op : Operator} {pos pos' : Pos} {g : W → W → Store → O} {f : FE} (hN : X.N.Nodup) (ho : OpR X (inplaceOp op) (Sim2 X ct g)) (he : PE X e (tF (gx X ct) E f)) (hi : X.N[i]? = some x := by rfl) (hx : Loc X.env.scope x := by first | exact Or.inl rfl | exact Or.inr rfl)
    (hf : X.fn x = true ∨ X.env.scope.names.lookup x = some .local := by first | exact .inl rfl | exact .inr rfl) : PS X (.AugAssign (.Name x pos') op e pos) (tS (gx X ct) E (fAug i g f)) := PSw (ps_aug (ti := Sim2 X ct g) hN hi hx he (fun pins s σ H a b v u Q I ra rb q => ho pins s σ H a b v u Q I ra rb q) hf) fun D σ H ⟨η, ρ, S, rp, er, h⟩ => by
  unfold fAug at h
  split at h
  · rename_i w e
    obtain ⟨v, e1, r⟩ := er.2 i w e
    refine ⟨v, e1, η, ρ, S, rp, er, FinR.mono (FinS.bind er h) fun v2 H1 ⟨η1, u, S1, f1, rp1, r1, h1⟩ => ⟨η1, S1, w, u, rp1, RepW.fu f1 _ _ r, r1, ?_⟩⟩
    cases e2 : g w u S1 with
    | none => rw [e2] at h1; exact h1.elim
    | some p =>
      obtain ⟨z, S2⟩ := p
      rw [e2] at h1
      exact fun η2 H2 z' f2 rp2 r2 => h1 η2 H2 _ f2 rp2 (((er.fu f1).fu f2).set r2)
  · exact h.elim
theorem sim_iaddI : OpR X (inplaceOp .Add) (Sim2 X ct (gI2 (fun _ _ => true) fun i j => .int (i + j))) := sim_i20 iop_add fun _ _ _ _ => .int _
theorem sim_isubI : OpR X (inplaceOp .Sub) (Sim2 X ct (gI2 (fun _ _ => true) fun i j => .int (i - j))) := sim_i20 iop_sub fun _ _ _ _ => .int _
theorem sim_iaddStr : OpR X (inplaceOp .Add) (Sim2 X ct gAddStr) := OpR.fit iop_add_str fun x y H Q ⟨η, S, wx, wy, rp, rx, ry, h⟩ => by
  unfold gAddStr at h
  split at h
  · cases rx with
    | d rx =>
      cases ry with
      | d ry =>
        cases rx
        cases ry
        split at h
        · exact ⟨_, _, rfl, rfl, lim_ok (by assumption), same_val rp (.d (.str _)) h⟩
        · exact h.elim
  · exact h.elim
/-- o[i] = v, a live list -/
def gSet (o i v : W) (S : Store) : Option Store := match o, i, v with
  | .loc l, .d (.int k), .d x => match S[l]? with
    | some (.lst xs) => match ixN xs.length k with
      | some j => some (S.set l (.lst (xs.set j x)))
      | none => none
    | _ => none
  | _, _, _ => none
def fStore (a o i : FE) : FS := fun ρ S => toS ρ (a ρ S) fun v S1 => toS ρ (o ρ S1) fun ov S2 => toS ρ (i ρ S2) fun iv S3 => match gSet ov iv v S3 with
  | some S4 => .next ρ S4
  | none => .bad
theorem set_key {η : List Addr} {H : Hp} {S S' : Store} {wo wi wv : W} {o i v : V} {P : Hp → Prop} (e : gSet wo wi wv S = some S') (rp : Rp X.K η H S) (ro : RepW X.K η H wo o) (ri : RepW X.K η H wi i) (rv : RepW X.K η H wv v)
    (h : ∀ η' H', Fu η H η' H' → Rp X.K η' H' S' → P H') : rSetL o i v H P := by
  unfold gSet at e
  split at e
  · rename_i l k x
    cases ro with
    | loc ro =>
      cases ri with
      | d ri =>
        cases ri
        cases rv with
        | d rv =>
          split at e
          · rename_i xs q
            split at e
            · rename_i j ej
              cases e
              obtain ⟨vs, h1, h2⟩ := rp.all _ _ _ ro q
              refine ⟨_, vs, k, j, rfl, rfl, h1, by rw [← h2.length]; exact ej, ?_⟩
              have m := List.mem_of_getElem? ro
              have f : Fu η H η (upd H _ (.lst (vs.set j v))) := fu_write m h1 trivial
              exact h η _ f (rp.write ro ⟨_, upd_same, RepDs.fu f _ _ (RepDs.set rv j h2)⟩)
            · cases e
          · cases e
  · cases e
theorem s_store {o i e : Expr} {tpos pos : Pos} {fo fi fe : FE} (he : PE X e (tF (gx X ct) E fe)) (ho : PE X o (tF (gx X ct) E fo)) (hi : PE X i (tF (gx X ct) E fi)) (ha : ∀ v, assign (.Subscript o i tpos) X.env v = (do
      let ov ← holding [v] (eval o X.env)
      let iv ← holding [v, ov] (eval i X.env)
      standAt tpos
      holding [v, ov, iv] (setItem ov iv v)
      release [v, ov, iv] []) := by intro _; rfl) (hs : swapsWithSole [.Subscript o i tpos] e pos.line X.env = pure false := by rfl) (hw : swappedStores [.Subscript o i tpos] e X.env = pure none := by rfl)
    (h1 : (assignEach [.Subscript o i tpos] X.env).map (·.2) = [assign (.Subscript o i tpos) X.env] := by rfl) : PS X (.Assign [.Subscript o i tpos] e pos) (tS (gx X ct) E (fStore fe fo fi)) := PSw (ps_asg he (pg_sub ho hi set_list ha) hs hw h1) fun D σ H ⟨η, ρ, S, rp, er, h⟩ =>
  ⟨η, ρ, S, rp, er, FinR.mono (FinS.bind er h) fun v H1 ⟨η1, w, S1, f1, rp1, r1, h1⟩ =>
    ⟨η1, ρ, S1, rp1, er.fu f1, FinR.mono (FinS.bind (er.fu f1) h1) fun v2 H2 ⟨η2, w2, S2, f2, rp2, r2, h2⟩ =>
      ⟨η2, ρ, S2, rp2, (er.fu f1).fu f2, FinR.mono (FinS.bind ((er.fu f1).fu f2) h2) fun v3 H3 ⟨η3, w3, S3, f3, rp3, r3, h3⟩ => by
        split at h3
        · rename_i S4 e4
          exact set_key e4 rp3 (RepW.fu f3 _ _ r2) r3 (RepW.fu f3 _ _ (RepW.fu f2 _ _ r1)) fun η4 H4 f4 rp4 => h3 η4 H4 σ f4 rp4 ((((er.fu f1).fu f2).fu f3).fu f4)
        · exact h3.elim⟩⟩⟩

/-! while -/
def whileL (c : FT) (b : FS) : Nat → Rho → Store → RF
  | 0, _, _ => .bad
  | n + 1, ρ, S => toS ρ (c ρ S) fun k S1 => if k = true then (match b ρ S1 with
    | .next ρ2 S2 => whileL c b n ρ2 S2
    | .cnt ρ2 S2 => whileL c b n ρ2 S2
    | .brk ρ2 S2 => .next ρ2 S2
    | r => r) else .next ρ S1
theorem s_while (n : Nat) {c : Expr} {body : List Stmt} {pos : Pos} {t : FT} {f : FS} (hp : PassesOwn (model X.prog X.w) X.A X.env X.xe) (hc : PT X c (tT (gx X ct) E t)) (hb : PSs X body (tS (gx X ct) E f)) : PS X (.While c body [] pos) (tS (gx X ct) E (whileL t f n)) := PSw (ps_while hp hc hb) fun D σ H ⟨η, ρ, S, rp, er, h⟩ => by
  refine ⟨fun m σ H => ∃ η ρ S, Rp X.K η H S ∧ ERep X.K η H ρ σ ∧ FinS (gx X ct) E η H (whileL t f m ρ S) D, ⟨n, η, ρ, S, rp, er, h⟩, ?_⟩
  rintro m σ H ⟨η, ρ, S, rp, er, h⟩
  cases m with
  | zero => exact h.elim
  | succ m =>
    refine ⟨η, ρ, S, rp, er, FinR.mono (FinS.bind (rel := relB) er h) fun v H1 ⟨η1, k, S1, f1, rp1, r1, h1⟩ => ?_⟩
    obtain rfl : v = k := r1
    by_cases hv : v = true
    · rw [if_pos hv] at h1 ⊢
      refine ⟨fun σ' H' => ∃ η ρ S, Rp X.K η H' S ∧ ERep X.K η H' ρ σ' ∧ FinS (gx X ct) E η H' (whileL t f m ρ S) D, fun σ' H' q => ⟨m, Nat.lt_succ_self m, q⟩, η1, ρ, S1, rp1, er.fu f1, ?_⟩
      cases e : f ρ S1 with
      | next ρ2 S2 => rw [e] at h1; exact fun η2 H2 σ2 f2 rp2 er2 => ⟨η2, ρ2, S2, rp2, er2, FinS.fu f2 h1⟩
      | cnt ρ2 S2 => rw [e] at h1; exact fun η2 H2 σ2 f2 rp2 er2 => ⟨η2, ρ2, S2, rp2, er2, FinS.fu f2 h1⟩
      | brk ρ2 S2 => rw [e] at h1; exact h1
      | ret w S2 => rw [e] at h1; exact h1
      | exc c fs ρ2 S2 => rw [e] at h1; exact h1
      | bad => rw [e] at h1; exact h1
    · rw [if_neg hv] at h1 ⊢
      exact h1 η1 H1 σ (Fu.refl _ _) rp1 (er.fu f1)

end
end VI
set_option Elab.async false
set_option linter.all false
set_option maxRecDepth 100000
namespace VI
open PySem PySem.Spec PyProof.Rows L2

/-! what is walked -/
/-- the members, and what the store must say at each turn -/
structure Wk where
  xs : List W
  ok : Store → Prop
structure WalkOk (K : PySem.W.Frag) (x : Wk) (η : List Addr) (H : Hp) (J : It) : Prop where
  stop : ∀ η' H' S', Fu η H η' H' → Rp K η' H' S' → x.ok S' → J.stop x.xs.length H'
  go : ∀ η' H' S' i w, Fu η H η' H' → Rp K η' H' S' → x.ok S' → x.xs[i]? = some w → J.go i H' ∧ ∀ y H'', J.yld i H' y H'' → Fu η' H' η' H'' ∧ Rp K η' H'' S' ∧ RepW K η' H'' w y
abbrev relJ (G : Gc) : Wk → List Addr → Hp → It → Prop := fun x η H J => WalkOk G.K x η H J
abbrev FK := Rho → Store → R Wk
def tI (G : Gc) (E : EX) (f : FK) : TI := fun σ H Q => ∃ η ρ S, Rp G.K η H S ∧ ERep G.K η H ρ σ ∧ FinR G (relJ G) (E σ) η H (f ρ S) Q
theorem PIw {X : Cx} {tg e : Expr} {t t' : TI} (h : PI X tg e t) (i : ∀ σ H R, t' σ H R → t σ H R) : PI X tg e t' := ⟨fun pins s σ H R I q => h.run pins s σ H R I (i σ H R q)⟩
def seqR {α : Type} (o : Option α) (S : Store) : R α := match o with
  | some ws => .ok ws S
  | none => .bad
theorem seqR_fin {α β : Type} {G : Gc} {Z : XK} {η : List Addr} {H : Hp} {S : Store} {o : Option α} {rel : α → List Addr → Hp → β → Prop} {Q : β → Hp → Prop} (h : FinR G rel Z η H (seqR o S) Q) : ∃ xs, o = some xs ∧ FinR G rel Z η H (.ok xs S) Q := by
  cases o with
  | none => exact h.elim
  | some xs => exact ⟨xs, rfl, h⟩
/-- a list: one that stays, or a live one, which must stay through the turns -/
def wkL (w : W) (S : Store) : Option Wk := match w with
  | .d (.list xs) => some ⟨xs.map W.d, fun _ => True⟩
  | .fro xs => some ⟨xs.map W.d, fun _ => True⟩
  | .loc l => match S[l]? with
    | some (.lst xs) => some ⟨xs.map W.d, fun S' => S'[l]? = some (.lst xs)⟩
    | _ => none
  | _ => none
def wkT (w : W) : Option Wk := (asTW w).map fun xs => ⟨xs, fun _ => True⟩
def fItL (a : FE) : FK := fun ρ S => (a ρ S).bind fun w S1 => seqR (wkL w S1) S1
def fItT (a : FE) : FK := fun ρ S => (a ρ S).bind fun w S1 => seqR (wkT w) S1
/-- a list as it stands, at each turn -/
def StayW (K : PySem.W.Frag) (x : Wk) (η : List Addr) (H : Hp) (T : Hp → List V → Prop) : Prop :=
  ∀ η' H' S', Fu η H η' H' → Rp K η' H' S' → x.ok S' → ∃ vs, T H' vs ∧ RepWs K η' H' x.xs vs
theorem wkL_ok {K : PySem.W.Frag} {η : List Addr} {H : Hp} {S : Store} {w : W} {v : V} {x : Wk} (e : wkL w S = some x) (rp : Rp K η H S) (r : RepW K η H w v) : ∃ a vs, v = .ref a ∧ SqL K H a vs ∧ StayW K x η H (fun H' vs => SqL K H' a vs) := by
  unfold wkL at e
  split at e
  · cases e
    cases r with
    | d r =>
      cases r with
      | list h1 h2 h3 => exact ⟨_, _, rfl, SqL.of h1, fun η' H' S' f rp' _ => ⟨_, SqL.of (f.ls _ _ h2 h1), RepWs.ofD (RepDs.fu f _ _ h3)⟩⟩
  · cases e
    cases r with
    | fro h1 h2 => exact ⟨_, _, rfl, h1.seq, fun η' H' S' f rp' _ => ⟨_, (h1.fu f).seq, RepWs.ofD (RepDs.fu f _ _ h2)⟩⟩
  · split at e
    · rename_i l xs q
      cases e
      cases r with
      | loc r =>
        obtain ⟨vs, h1, h2⟩ := rp.all _ _ _ r q
        refine ⟨_, vs, rfl, SqL.of h1, fun η' H' S' f rp' ok => ?_⟩
        obtain ⟨vs', h1', h2'⟩ := rp'.all _ _ _ (f.get r) ok
        exact ⟨vs', SqL.of h1', RepWs.ofD h2'⟩
    · cases e
  · cases e
theorem wkT_ok {K : PySem.W.Frag} {η : List Addr} {H : Hp} {w : W} {v : V} {x : Wk} (e : wkT w = some x) (r : RepW K η H w v) : ∃ a vs, v = .ref a ∧ SqT K H a vs ∧ StayW K x η H (fun H' vs => SqT K H' a vs) := by
  unfold wkT at e
  cases q : asTW w with
  | none => rw [q] at e; cases e
  | some xs =>
    rw [q] at e
    cases e
    obtain ⟨a, vs, rfl, h1, h2⟩ := asTW_ok q r
    exact ⟨a, vs, rfl, h1, fun η' H' S' f rp' _ => ⟨vs, SqT.fu f h1, RepWs.fu f _ _ h2⟩⟩
section
variable {X : Cx} {ct : Nat → Option Addr} {E : EX} {tg : Expr}
theorem walk_l {K : PySem.W.Frag} {η : List Addr} {H : Hp} {a : Addr} {x : Wk} (st : StayW K x η H (fun H' vs => SqL K H' a vs)) : WalkOk K x η H (Itl K a) where
  stop := fun η' H' S' f rp ok => by
    obtain ⟨vs, h1, h2⟩ := st η' H' S' f rp ok
    exact ⟨vs, h1, by rw [h2.length]; exact Nat.le_refl _⟩
  go := fun η' H' S' i w f rp ok e => by
    obtain ⟨vs, h1, h2⟩ := st η' H' S' f rp ok
    obtain ⟨v, e1, r1⟩ := h2.get e
    refine ⟨⟨vs, v, h1, e1⟩, fun y H'' q => ?_⟩
    obtain ⟨rfl, q⟩ := q
    have e2 := q vs h1
    rw [e1] at e2
    cases e2
    exact ⟨Fu.refl _ _, rp, r1⟩
theorem walk_t {K : PySem.W.Frag} {η : List Addr} {H : Hp} {a : Addr} {x : Wk} (st : StayW K x η H (fun H' vs => SqT K H' a vs)) : WalkOk K x η H (Itt K a) where
  stop := fun η' H' S' f rp ok => by
    obtain ⟨vs, h1, h2⟩ := st η' H' S' f rp ok
    exact ⟨vs, h1, by rw [h2.length]; exact Nat.le_refl _⟩
  go := fun η' H' S' i w f rp ok e => by
    obtain ⟨vs, h1, h2⟩ := st η' H' S' f rp ok
    obtain ⟨v, e1, r1⟩ := h2.get e
    refine ⟨⟨vs, v, h1, e1⟩, fun y H'' q => ?_⟩
    obtain ⟨rfl, q⟩ := q
    have e2 := q vs h1
    rw [e1] at e2
    cases e2
    exact ⟨Fu.refl _ _, rp, r1⟩
theorem w_list {e : Expr} {f : FE} (he : PE X e (tF (gx X ct) E f)) : PI X tg e (tI (gx X ct) E (fItL f)) := PIw (pi_list he) fun σ H R ⟨η, ρ, S, rp, er, h⟩ =>
  ⟨η, ρ, S, rp, er, FinR.mono (FinR.bind (rel := relW (gx X ct)) h) fun v H1 ⟨η1, w, S1, f1, rp1, r1, h1⟩ => by
    obtain ⟨x, e1, h2⟩ := seqR_fin h1
    obtain ⟨a, vs, rfl, hq, st⟩ := wkL_ok e1 rp1 r1
    exact ⟨a, rfl, ⟨vs, hq⟩, h2 η1 H1 _ (Fu.refl _ _) rp1 (walk_l st)⟩⟩
theorem w_tup {e : Expr} {f : FE} (he : PE X e (tF (gx X ct) E f)) : PI X tg e (tI (gx X ct) E (fItT f)) := PIw (pi_tup he) fun σ H R ⟨η, ρ, S, rp, er, h⟩ =>
  ⟨η, ρ, S, rp, er, FinR.mono (FinR.bind (rel := relW (gx X ct)) h) fun v H1 ⟨η1, w, S1, f1, rp1, r1, h1⟩ => by
    obtain ⟨x, e1, h2⟩ := seqR_fin h1
    obtain ⟨a, vs, rfl, hq, st⟩ := wkT_ok e1 r1
    exact ⟨a, rfl, ⟨vs, hq⟩, h2 η1 H1 _ (Fu.refl _ _) rp1 (walk_t st)⟩⟩
/-- lo, lo + 1 .. -/
def rangeW (lo : Int) (n : Nat) : List W := (List.range n).map fun (i : Nat) => W.d (.int (lo + (i : Int)))
theorem rangeW_get {lo : Int} {n i : Nat} {w : W} (e : (rangeW lo n)[i]? = some w) : i < n ∧ w = .d (.int (lo + (i : Int))) := by
  unfold rangeW at e
  rw [List.getElem?_map] at e
  cases q : (List.range n)[i]? with
  | none => rw [q] at e; cases e
  | some j =>
    rw [q] at e
    cases e
    obtain ⟨h1, h2⟩ := List.getElem?_eq_some_iff.mp q
    rw [List.getElem_range] at h2
    rw [List.length_range] at h1
    subst h2
    exact ⟨h1, rfl⟩
theorem walk_r {K : PySem.W.Frag} {η : List Addr} {H : Hp} {lo : Int} {n : Nat} : WalkOk K ⟨rangeW lo n, fun _ => True⟩ η H (Itr lo n) where
  stop := fun η' H' S' f rp ok => by
    show n ≤ (rangeW lo n).length
    unfold rangeW
    rw [List.length_map, List.length_range]
    exact Nat.le_refl _
  go := fun η' H' S' i w f rp ok e => by
    obtain ⟨hi, rfl⟩ := rangeW_get e
    refine ⟨hi, fun x H'' y => ?_⟩
    obtain ⟨rfl, rfl⟩ := y
    exact ⟨Fu.refl _ _, rp, .d (.int _)⟩
/-- lo, lo - 1 .. -/
def downW (lo : Int) (n : Nat) : List W := (List.range n).map fun (i : Nat) => W.d (.int (lo + (i : Int) * -1))
theorem downW_get {lo : Int} {n i : Nat} {w : W} (e : (downW lo n)[i]? = some w) : i < n ∧ w = .d (.int (lo + (i : Int) * -1)) := by
  unfold downW at e
  rw [List.getElem?_map] at e
  cases q : (List.range n)[i]? with
  | none => rw [q] at e; cases e
  | some j =>
    rw [q] at e
    cases e
    obtain ⟨h1, h2⟩ := List.getElem?_eq_some_iff.mp q
    rw [List.getElem_range] at h2
    rw [List.length_range] at h1
    subst h2
    exact ⟨h1, rfl⟩
theorem walk_c {K : PySem.W.Frag} {η : List Addr} {H : Hp} {lo : Int} {n : Nat} : WalkOk K ⟨downW lo n, fun _ => True⟩ η H (Itc lo (-1) n) where
  stop := fun η' H' S' f rp ok => by
    show n ≤ (downW lo n).length
    unfold downW
    rw [List.length_map, List.length_range]
    exact Nat.le_refl _
  go := fun η' H' S' i w f rp ok e => by
    obtain ⟨hi, rfl⟩ := downW_get e
    refine ⟨hi, fun x H'' y => ?_⟩
    obtain ⟨rfl, rfl⟩ := y
    exact ⟨Fu.refl _ _, rp, .d (.int _)⟩
/-- fits 62 bits -/
def fit62 (i : Int) : Bool := decide (-(2 ^ 62) ≤ i) && decide (i < 2 ^ 62)
theorem fit62_ok {i : Int} (h : fit62 i = true) : -(2 ^ 62) ≤ i ∧ i < 2 ^ 62 := by
  unfold fit62 at h
  rw [Bool.and_eq_true, decide_eq_true_eq, decide_eq_true_eq] at h
  exact h
def rng1 (ws : List W) (S : Store) : R Wk := match ws with
  | [.d (.int j)] => if fit62 j = true then .ok ⟨rangeW 0 j.toNat, fun _ => True⟩ S else .bad
  | _ => .bad
def rng2 (ws : List W) (S : Store) : R Wk := match ws with
  | [.d (.int i), .d (.int j)] => if fit62 i = true ∧ fit62 j = true then .ok ⟨rangeW i (j - i).toNat, fun _ => True⟩ S else .bad
  | _ => .bad
def rng3 (ws : List W) (S : Store) : R Wk := match ws with
  | [.d (.int i), .d (.int j), .d (.int c)] => if c = -1 ∧ fit62 i = true ∧ fit62 j = true then .ok ⟨downW i (i - j).toNat, fun _ => True⟩ S else .bad
  | _ => .bad
def fRng (g : List W → Store → R Wk) (a : FA) : FK := fun ρ S => (a ρ S).bind g
theorem repWs3 {K : PySem.W.Frag} {η : List Addr} {H : Hp} {w u t : W} {vs : List V} (r : RepWs K η H [w, u, t] vs) : ∃ v v' v'', vs = [v, v', v''] ∧ RepW K η H w v ∧ RepW K η H u v' ∧ RepW K η H t v'' := by
  cases r with
  | cons h1 h2 =>
    obtain ⟨v', v'', rfl, h3, h4⟩ := repWs2 h2
    exact ⟨_, _, _, rfl, h1, h3, h4⟩
theorem intW {K : PySem.W.Frag} {η : List Addr} {H : Hp} {i : Int} {v : V} (r : RepW K η H (.d (.int i)) v) : v = .int i := by
  cases r with | d r => cases r; rfl
theorem w_range1 {a : Expr} {fa : FA} {p pos : Pos} (hg : Gl X "range") (hm : X.mg "range" = none) (ha : PA X [a] (tA (gx X ct) E fa)) (hs : starEach [a] X.env = [(false, eval a X.env)] := by rfl) : PI X tg (.Call (.Name "range" p) [a] [] pos) (tI (gx X ct) E (fRng rng1 fa)) :=
  PIw (pi_range1 hg hm ha hs) fun σ H R ⟨η, ρ, S, rp, er, h⟩ => ⟨η, ρ, S, rp, er, by
    refine FinR.mono (FinR.bind (rel := relL (gx X ct)) h) fun v H1 ⟨η1, w, S1, f1, rp1, r1, h1⟩ => ?_
    unfold rng1 at h1
    split at h1
    · rename_i j
      split at h1
      · rename_i hj
        obtain ⟨v', rfl, r2⟩ := repWs1 r1
        obtain rfl := intW r2
        exact ⟨j, rfl, (fit62_ok hj).1, (fit62_ok hj).2, h1 η1 H1 _ (Fu.refl _ _) rp1 walk_r⟩
      · exact h1.elim
    · exact h1.elim⟩
theorem w_range2 {a b : Expr} {fa : FA} {p pos : Pos} (hg : Gl X "range") (hm : X.mg "range" = none) (ha : PA X [a, b] (tA (gx X ct) E fa)) (hs : starEach [a, b] X.env = [(false, eval a X.env), (false, eval b X.env)] := by rfl) (hs2 : starEach [b] X.env = [(false, eval b X.env)] := by rfl) : PI X tg (.Call (.Name "range" p) [a, b] [] pos) (tI (gx X ct) E (fRng rng2 fa)) :=
  PIw (pi_range2 hg hm ha hs hs2) fun σ H R ⟨η, ρ, S, rp, er, h⟩ => ⟨η, ρ, S, rp, er, by
    refine FinR.mono (FinR.bind (rel := relL (gx X ct)) h) fun v H1 ⟨η1, w, S1, f1, rp1, r1, h1⟩ => ?_
    unfold rng2 at h1
    split at h1
    · rename_i i j
      split at h1
      · rename_i hj
        obtain ⟨v1, v2, rfl, r2, r3⟩ := repWs2 r1
        obtain rfl := intW r2
        obtain rfl := intW r3
        exact ⟨i, j, rfl, ⟨(fit62_ok hj.1).1, (fit62_ok hj.1).2, (fit62_ok hj.2).1, (fit62_ok hj.2).2⟩, h1 η1 H1 _ (Fu.refl _ _) rp1 walk_r⟩
      · exact h1.elim
    · exact h1.elim⟩
theorem w_range3 {a b c : Expr} {fa : FA} {p pos : Pos} (hg : Gl X "range") (hm : X.mg "range" = none) (ha : PA X [a, b, c] (tA (gx X ct) E fa))
    (hs : starEach [a, b, c] X.env = (false, eval a X.env) :: starEach [b, c] X.env := by rfl) (hpl : (backTo pos (starEach [b, c] X.env)).any (·.1) = false := by rfl) : PI X tg (.Call (.Name "range" p) [a, b, c] [] pos) (tI (gx X ct) E (fRng rng3 fa)) :=
  PIw (pi_range3 hg hm ha hs hpl) fun σ H R ⟨η, ρ, S, rp, er, h⟩ => ⟨η, ρ, S, rp, er, by
    refine FinR.mono (FinR.bind (rel := relL (gx X ct)) h) fun v H1 ⟨η1, w, S1, f1, rp1, r1, h1⟩ => ?_
    unfold rng3 at h1
    split at h1
    · rename_i i j c
      split at h1
      · rename_i hj
        obtain ⟨hc, hi, hj⟩ := hj
        subst hc
        obtain ⟨v1, v2, v3, rfl, r2, r3, r4⟩ := repWs3 r1
        obtain rfl := intW r2
        obtain rfl := intW r3
        obtain rfl := intW r4
        exact ⟨i, j, -1, _, rfl, RgC.neg (fit62_ok hi).1 (fit62_ok hi).2 (fit62_ok hj).1 (fit62_ok hj).2, h1 η1 H1 _ (Fu.refl _ _) rp1 walk_c⟩
      · exact h1.elim
    · exact h1.elim⟩
end
end VI
set_option Elab.async false
set_option linter.all false
set_option maxRecDepth 100000
namespace VI
open PySem PySem.Spec PyProof.Rows L2

/-! two sequences side by side, each a list (true) or a tuple (false) -/
def SqB (K : PySem.W.Frag) (k : Bool) (H : Hp) (a : Addr) (xs : List V) : Prop := match k with
  | true => SqL K H a xs
  | false => SqT K H a xs
def ItB (k : Bool) (h : Heap) (it a : Addr) (i : Nat) : Prop := match k with
  | true => h.IsListIter it a i
  | false => h.IsTupleIter it a i
def CoB (k : Bool) (h : Heap) (a : Addr) (its : Array Value) : Prop := match k with
  | true => h.IsList a its
  | false => h.IsTuple a its
def obB (k : Bool) (a : Addr) : Obj := match k with
  | true => { cls := .type "list_iterator", data := .fields #[.ref a, .int 0 0] }
  | false => { cls := .type "tuple_iterator", data := .fields #[.ref a, .int 0 0] }
theorem begB (k : Bool) (a : Addr) (its : Array Value) : Begins (.ref a) (obB k a) fun h => CoB k h a its := by
  cases k
  · exact begins_tuple a its
  · exact begins_list a its
theorem drwB {P : Program} {w : World} {A : Around} (hh : A.handled = none) (k : Bool) (it a : Addr) (hne : a ≠ it) (its : Array Value) :
    Draws P w A it [it, a] its.size (fun i v => its[i]? = some v) (fun i h => ItB k h it a i ∧ CoB k h a its) := by
  cases k
  · exact .tuple hh it a hne its
  · exact .list hh it a hne its
theorem ItB.new {k : Bool} {h : Heap} {it a : Addr} (e : h.get? it = some (obB k a)) : ItB k h it a 0 := by
  cases k
  · exact ⟨_, e, rfl, rfl⟩
  · exact ⟨_, e, rfl, rfl⟩
theorem ItB.at {k : Bool} {h h' : Heap} {it a : Addr} {i : Nat} (t : ItB k h it a i) (e : ∀ o, h.get? it = some o → h'.get? it = some o) : ItB k h' it a i := by
  cases k
  · obtain ⟨o, q, r⟩ := t
    exact ⟨o, e o q, r⟩
  · obtain ⟨o, q, r⟩ := t
    exact ⟨o, e o q, r⟩
theorem ItB.obj {k : Bool} {h : Heap} {it a : Addr} {i : Nat} (t : ItB k h it a i) : ∃ o, h.get? it = some o ∧ ∀ v, o.data ≠ .cell v := by
  cases k
  · obtain ⟨o, q, _, r⟩ := t
    exact ⟨o, q, fun v z => by rw [r] at z; cases z⟩
  · obtain ⟨o, q, _, r⟩ := t
    exact ⟨o, q, fun v z => by rw [r] at z; cases z⟩
theorem CoB.lt {k : Bool} {h : Heap} {a : Addr} {its : Array Value} (t : CoB k h a its) : a < h.objs.size := by
  cases k
  · obtain ⟨o, q, _⟩ := t
    exact Heap.lt_size q
  · obtain ⟨o, q, _⟩ := t
    exact Heap.lt_size q
theorem SqB.of {X : Cx} {k : Bool} {pins : List (Addr × Obj)} {σ : L2.St} {H : Hp} {s : Shared} {a : Addr} {xs : List V} (I : Inv X pins σ H s) (q : SqB X.K k H a xs) : ∃ its : List Value, Vals xs its ∧ CoB k s.heap a its.toArray := by
  cases k
  · obtain ⟨its, r, p, _⟩ := I.tuple q
    obtain ⟨o, e, c, n, d⟩ := p
    exact ⟨its, r, o, e, c, n, d⟩
  · obtain ⟨its, r, p, _⟩ := I.list q
    exact ⟨its, r, p.isList⟩
theorem SqB.inj {X : Cx} {k : Bool} {pins : List (Addr × Obj)} {σ : L2.St} {H : Hp} {s : Shared} {a : Addr} {xs ys : List V} (I : Inv X pins σ H s) (q : SqB X.K k H a xs) (q' : SqB X.K k H a ys) : xs = ys := by
  cases k
  · exact I.tuple_inj q q'
  · exact I.list_inj q q'
def ItzB (K : PySem.W.Frag) (k1 k2 : Bool) (a b : Addr) : It :=
  ⟨fun i H => ∃ (xs ys : List V) (x y : V), SqB K k1 H a xs ∧ SqB K k2 H b ys ∧ xs[i]? = some x ∧ ys[i]? = some y,
    fun i H v H' => ∃ T x y, v = .ref T ∧ H T = none ∧ H' = upd H T (.tup [x, y]) ∧ (∀ xs, SqB K k1 H a xs → xs[i]? = some x) ∧ ∀ ys, SqB K k2 H b ys → ys[i]? = some y,
    fun i H => ∃ xs ys : List V, SqB K k1 H a xs ∧ SqB K k2 H b ys ∧ i = min xs.length ys.length⟩
/-- where the iterator of a pair stands -/
def AtZ (k1 k2 : Bool) (a b z TI TO i1 i2 : Addr) (i : Nat) (h : Heap) : Prop :=
  IsZip h z TI TO .none ∧ IsTupOf2 h TI (.ref i1) (.ref i2) ∧ (∃ x y, IsTupOf2 h TO x y) ∧ ItB k1 h i1 a i ∧ ItB k2 h i2 b i
theorem mem5 {c z TI TO i1 i2 : Addr} (h : c ∈ [z, TI, TO, i1, i2]) : c = z ∨ c = TI ∨ c = TO ∨ c = i1 ∨ c = i2 := by simpa using h
theorem goZ {X : Cx} {pins : List (Addr × Obj)} {σ : L2.St} {H : Hp} {s : Shared} (I : Inv X pins σ H s) (hc : X.calm = true) {elts : List Expr} {kk : Nat} {tpos : Pos} {k1 k2 : Bool} {a b z TI TO i1 i2 : Addr} (D : ZipSep2 z TI TO i1 i2 [i1, a] [i2, b]) (h1 : a ≠ i1) (h2 : b ≠ i2) (us ws : List Value) :
    GoesN X.prog X.w X.A (.Tuple elts kk tpos) z (z :: TI :: TO :: ([i1, a] ++ [i2, b])) [z, TO, i1, i2] (min us.toArray.size ws.toArray.size) (fun i h₀ v h => ∃ T x y, v = .ref T ∧ h₀.objs.size ≤ T ∧ us.toArray[i]? = some x ∧ ws.toArray[i]? = some y ∧ h.IsTuple T #[x, y])
      (fun i h => IsZip h z TI TO .none ∧ IsTupOf2 h TI (.ref i1) (.ref i2) ∧ (∃ x y, IsTupOf2 h TO x y) ∧ (ItB k1 h i1 a i ∧ CoB k1 h a us.toArray) ∧ ItB k2 h i2 b i ∧ CoB k2 h b ws.toArray) :=
  GoesN.zip2 D (drwB (A := X.A.in1) (I.ok.hd hc) k1 i1 a h1 us.toArray) (drwB (A := X.A.in1) (I.ok.hd hc) k2 i2 b h2 ws.toArray)
theorem turn_zipB {P : Program} {w : World} {K : PySem.W.Frag} {elts : List Expr} {kk : Nat} {tpos : Pos} {k1 k2 : Bool} {a b z TI TO i1 i2 : Addr} (D : ZipSep2 z TI TO i1 i2 [i1, a] [i2, b]) (h1 : a ≠ i1) (h2 : b ≠ i2) :
    Turn P w K (.Tuple elts kk tpos) (ItzB K k1 k2 a b) [z, TI, TO, i1, i2] z (AtZ k1 k2 a b z TI TO i1 i2) where
  mem := by simp
  obj := fun i h st c hc => by
    obtain ⟨hz, hI, ⟨x, y, hO⟩, q1, q2⟩ := st
    rcases mem5 hc with q | q | q | q | q
    · rw [q]; exact ⟨_, hz, fun v q => nomatch q⟩
    · rw [q]; exact ⟨_, hI, fun v q => nomatch q⟩
    · rw [q]; exact ⟨_, hO, fun v q => nomatch q⟩
    · rw [q]; exact q1.obj
    · rw [q]; exact q2.obj
  keep := fun i h h' st k => by
    obtain ⟨hz, hI, ⟨x, y, hO⟩, q1, q2⟩ := st
    exact ⟨k z (by simp) _ hz, k TI (by simp) _ hI, ⟨x, y, k TO (by simp) _ hO⟩, q1.at fun o q => k i1 (by simp) o q, q2.at fun o q => k i2 (by simp) o q⟩
  item := by
    intro X hP hw hK hc i pins s σ H E I hf st hg
    subst hP hw hK
    obtain ⟨xs, ys, x, y, sx, sy, ex, ey⟩ := hg
    obtain ⟨us, rx, cx⟩ := SqB.of I sx
    obtain ⟨ws, ry, cy⟩ := SqB.of I sy
    obtain ⟨u, hu, ru⟩ := rx.get ex
    obtain ⟨t, ht, rt⟩ := ry.get ey
    obtain ⟨lu, eu⟩ := List.getElem?_eq_some_iff.mp hu
    obtain ⟨lt, et⟩ := List.getElem?_eq_some_iff.mp ht
    obtain ⟨hz, hI, hO, q1, q2⟩ := st
    refine (goZ I hc D h1 h2 us ws).goes i s (fun v s2 => ∃ x H', Inv X pins σ H' s2 ∧ RelV x v ∧ (ItzB X.K k1 k2 a b).yld i H x H' ∧ AtZ k1 k2 a b z TI TO i1 i2 (i + 1) s2.heap ∧ ∀ b ∈ [z, TI, TO, i1, i2], H' b = none) E (by rw [List.size_toArray, List.size_toArray]; exact Nat.lt_min.mpr ⟨lu, lt⟩) ⟨hz, hI, hO, ⟨q1, cx⟩, ⟨q2, cy⟩⟩ fun v h' tk yy st' hk htk => ?_
    obtain ⟨T, p, q, rfl, hT, hp, hq, isT⟩ := yy
    obtain ⟨hz', hI', hO', ⟨q1', _⟩, ⟨q2', _⟩⟩ := st'
    have e1 : p = u := by
      have z : us.toArray[i]? = some p := hp
      rw [List.getElem?_toArray, hu] at z
      exact (Option.some.inj z).symm
    have e2 : q = t := by
      have z : ws.toArray[i]? = some q := hq
      rw [List.getElem?_toArray, ht] at z
      exact (Option.some.inj z).symm
    subst e1 e2
    obtain ⟨oT, gT, cT, nT, dT⟩ := isT
    have new : ObjOk X.prog X.w (upd H T (.tup [x, y])) h' T (.tup [x, y]) := ⟨by show 2 ≤ sizeLine; decide, [p, q], .cons ru (.cons rt .nil), ⟨oT, gT, cT, nT, dT⟩⟩
    have I1 : Inv X pins σ (upd H T (.tup [x, y])) { s with heap := h', toks := tk } :=
      I.turnedNew (ch := [z, TI, TO, i1, i2]) (fun c o hb q' => hk c o (fun m => hb (by simp at m ⊢; rcases m with m | m | m | m <;> simp [m])) q') hf hT new
    refine ⟨.ref T, _, I1, rfl, ⟨T, x, y, rfl, I.hok.fresh hT, rfl, fun l hl => by rw [SqB.inj I hl sx]; exact ex, fun l hl => by rw [SqB.inj I hl sy]; exact ey⟩, ⟨hz', hI', hO', q1', q2'⟩, fun c hcm => ?_⟩
    have hlt : c < s.heap.objs.size := by
      obtain ⟨x0, y0, hO⟩ := hO
      rcases mem5 hcm with m | m | m | m | m
      · rw [m]; exact Heap.lt_size hz
      · rw [m]; exact Heap.lt_size hI
      · rw [m]; exact Heap.lt_size hO
      · rw [m]; obtain ⟨_, g, _⟩ := q1.obj; exact Heap.lt_size g
      · rw [m]; obtain ⟨_, g, _⟩ := q2.obj; exact Heap.lt_size g
    rw [upd_ne (Nat.ne_of_lt (Nat.lt_of_lt_of_le hlt hT))]
    exact (hf c hcm).1
  done := by
    intro X hP hw hK hc i pins s σ H E I hf st hg
    subst hP hw hK
    obtain ⟨xs, ys, sx, sy, ei⟩ := hg
    obtain ⟨us, rx, cx⟩ := SqB.of I sx
    obtain ⟨ws, ry, cy⟩ := SqB.of I sy
    obtain ⟨hz, hI, hO, q1, q2⟩ := st
    have en : i = min us.toArray.size ws.toArray.size := by rw [List.size_toArray, List.size_toArray, ← rx.length, ← ry.length]; exact ei
    refine (goZ (elts := elts) (kk := kk) (tpos := tpos) I hc D h1 h2 us ws).stops s (fun s1 => Inv X pins σ H s1) E ⟨hz, hI, hO, ⟨?_, cx⟩, ⟨?_, cy⟩⟩ fun h' tk hk htk => ?_
    · rw [← en]; exact q1
    · rw [← en]; exact q2
    · exact I.turnedL (ch := [z, TI, TO, i1, i2]) (fun c o hb q' => hk c o (fun m => hb (by simp at m ⊢; rcases m with m | m | m | m <;> simp [m])) q') hf
  self := fun A i s Q E st h => wpAny_pyIter_zip st.1 h

def iZipB (K : PySem.W.Frag) (ta : TA) : TI := fun σ H R => ta σ H fun vs H1 => ∃ (k1 k2 : Bool) (a b : Addr) (xs ys : List V), vs = [.ref a, .ref b] ∧ SqB K k1 H1 a xs ∧ SqB K k2 H1 b ys ∧ R (ItzB K k1 k2 a b) H1
theorem pi_zipB {X : Cx} {e e2 : Expr} {ta : TA} {p pos tpos : Pos} {elts : List Expr} {kk : Nat} (hg : Gl X "zip") (hm : X.mg "zip" = none) (ha : PA X [e, e2] ta)
    (hs : starEach [e, e2] X.env = (false, eval e X.env) :: starEach [e2] X.env := by rfl) (hpl : (backTo pos (starEach [e2] X.env)).any (·.1) = false := by rfl) :
    PI X (.Tuple elts kk tpos) (.Call (.Name "zip" p) [e, e2] [] pos) (iZipB X.K ta) := ⟨fun pins s σ H R I h => by
  refine Call_ (ld_blt I hg hm PyProof.Rows.boot_zip (PyProof.Rows.callWith_type1 (thn (ha.run pos pins s σ H _ I h) fun us s1 ⟨vs, H1, I1, r1, q1⟩ => ?_) hs hpl))
  obtain ⟨k1, k2, a, b, xs, ys, rfl, sx, sy, q⟩ := q1
  cases r1 with
  | cons r rr =>
    cases rr with
    | cons r' rr =>
      cases rr
      cases r
      cases r'
      obtain ⟨us, rx, cx⟩ := SqB.of I1 sx
      obtain ⟨ws, ry, cy⟩ := SqB.of I1 sy
      refine zip_begins2 (begB k1 a us.toArray) (begB k2 b ws.toArray) cx cy fun h' hz hI hO g1 g2 hsz hk => wpAny_pyIter_zip hz ?_
      have I2 : Inv X pins σ H1 { s1 with heap := h' } := I1.kept (t' := s1.toks) hk
      refine ⟨s1.heap.objs.size + 4, [s1.heap.objs.size + 4, s1.heap.objs.size + 2, s1.heap.objs.size + 3, s1.heap.objs.size, s1.heap.objs.size + 1], _, _, H1, rfl, I2,
        turn_zipB (zip_sep2 (fun c m => by rw [List.mem_singleton.mp m]; exact cx.lt) fun c m => by rw [List.mem_singleton.mp m]; exact cy.lt) (Nat.ne_of_lt cx.lt) (Nat.ne_of_lt (Nat.lt_succ_of_lt cy.lt)), ⟨hz, hI, ⟨_, _, hO⟩, ItB.new g1, ItB.new g2⟩, fun c m => ?_, q⟩
      have hle : s1.heap.objs.size ≤ c := by
        rcases mem5 m with z | z | z | z | z
        · rw [z]; exact Nat.le_add_right _ _
        · rw [z]; exact Nat.le_add_right _ _
        · rw [z]; exact Nat.le_add_right _ _
        · rw [z]; exact Nat.le_refl _
        · rw [z]; exact Nat.le_add_right _ _
      exact I1.fpOk hle (I1.hok.fresh hle)⟩

/-! enumerate -/
def IteB (K : PySem.W.Frag) (k : Bool) (a : Addr) : It :=
  ⟨fun i H => ∃ (xs : List V) (x : V), SqB K k H a xs ∧ xs[i]? = some x,
    fun i H v H' => ∃ T x, v = .ref T ∧ H T = none ∧ H' = upd H T (.tup [.int (i : Nat), x]) ∧ ∀ xs, SqB K k H a xs → xs[i]? = some x,
    fun i H => ∃ xs : List V, SqB K k H a xs ∧ i = xs.length⟩
def AtE (k : Bool) (a e it : Addr) (i : Nat) (h : Heap) : Prop := (∃ old, IsEnum h e it (0 + (i : Int)) old) ∧ ItB k h it a i
theorem mem2 {c e it : Addr} (h : c ∈ [e, it]) : c = e ∨ c = it := by simpa using h
theorem goE {X : Cx} {pins : List (Addr × Obj)} {σ : L2.St} {H : Hp} {s : Shared} (I : Inv X pins σ H s) (hc : X.calm = true) {elts : List Expr} {kk : Nat} {tpos : Pos} {k : Bool} {a e it : Addr} (h1 : a ≠ it) (h2 : e ≠ it) (h3 : e ≠ a) (us : List Value) :
    GoesN X.prog X.w X.A (.Tuple elts kk tpos) e (e :: [it, a]) [e, it] us.toArray.size (fun i h₀ v h => ∃ T t x, v = .ref T ∧ h₀.objs.size ≤ T ∧ us.toArray[i]? = some x ∧ h.IsTuple T #[.int (0 + (i : Int)) t, x])
      (fun i h => (∃ old, IsEnum h e it (0 + (i : Int)) old) ∧ ItB k h it a i ∧ CoB k h a us.toArray) :=
  GoesN.enumFrom 0 (drwB (A := X.A.in1) (I.ok.hd hc) k it a h1 us.toArray) e h2 (by simp [h2, h3]) (by simp)
theorem turn_enumB {P : Program} {w : World} {K : PySem.W.Frag} {elts : List Expr} {kk : Nat} {tpos : Pos} {k : Bool} {a e it : Addr} (h1 : a ≠ it) (h2 : e ≠ it) (h3 : e ≠ a) :
    Turn P w K (.Tuple elts kk tpos) (IteB K k a) [e, it] e (AtE k a e it) where
  mem := by simp
  obj := fun i h st c hc => by
    obtain ⟨⟨old, he⟩, q1⟩ := st
    rcases mem2 hc with q | q
    · rw [q]; exact ⟨_, he, fun v q => nomatch q⟩
    · rw [q]; exact q1.obj
  keep := fun i h h' st k => by
    obtain ⟨⟨old, he⟩, q1⟩ := st
    exact ⟨⟨old, k e (by simp) _ he⟩, q1.at fun o q => k it (by simp) o q⟩
  item := by
    intro X hP hw hK hc i pins s σ H E I hf st hg
    subst hP hw hK
    obtain ⟨xs, x, sx, ex⟩ := hg
    obtain ⟨us, rx, cx⟩ := SqB.of I sx
    obtain ⟨u, hu, ru⟩ := rx.get ex
    obtain ⟨lu, eu⟩ := List.getElem?_eq_some_iff.mp hu
    obtain ⟨he, q1⟩ := st
    refine (goE I hc h1 h2 h3 us).goes i s (fun v s2 => ∃ x H', Inv X pins σ H' s2 ∧ RelV x v ∧ (IteB X.K k a).yld i H x H' ∧ AtE k a e it (i + 1) s2.heap ∧ ∀ b ∈ [e, it], H' b = none) E (by rw [List.size_toArray]; exact lu) ⟨he, q1, cx⟩ fun v h' tk yy st' hk htk => ?_
    obtain ⟨T, t, p, rfl, hT, hp, isT⟩ := yy
    obtain ⟨he', q1', _⟩ := st'
    have e1 : p = u := by
      have z : us.toArray[i]? = some p := hp
      rw [List.getElem?_toArray, hu] at z
      exact (Option.some.inj z).symm
    subst e1
    obtain ⟨oT, gT, cT, nT, dT⟩ := isT
    have ei : (0 : Int) + (i : Int) = ((i : Nat) : Int) := by omega
    rw [ei] at dT
    have new : ObjOk X.prog X.w (upd H T (.tup [.int (i : Nat), x])) h' T (.tup [.int (i : Nat), x]) := ⟨by show 2 ≤ sizeLine; decide, [.int (i : Nat) t, p], .cons ⟨_, rfl⟩ (.cons ru .nil), ⟨oT, gT, cT, nT, dT⟩⟩
    have I1 : Inv X pins σ (upd H T (.tup [.int (i : Nat), x])) { s with heap := h', toks := tk } :=
      I.turnedNew (ch := [e, it]) (fun c o hb q' => hk c o hb q') hf hT new
    refine ⟨.ref T, _, I1, rfl, ⟨T, x, rfl, I.hok.fresh hT, rfl, fun l hl => by rw [SqB.inj I hl sx]; exact ex⟩, ⟨he', q1'⟩, fun c hcm => ?_⟩
    have hlt : c < s.heap.objs.size := by
      obtain ⟨old, he⟩ := he
      rcases mem2 hcm with m | m
      · rw [m]; exact Heap.lt_size he
      · rw [m]; obtain ⟨_, g, _⟩ := q1.obj; exact Heap.lt_size g
    rw [upd_ne (Nat.ne_of_lt (Nat.lt_of_lt_of_le hlt hT))]
    exact (hf c hcm).1
  done := by
    intro X hP hw hK hc i pins s σ H E I hf st hg
    subst hP hw hK
    obtain ⟨xs, sx, ei⟩ := hg
    obtain ⟨us, rx, cx⟩ := SqB.of I sx
    obtain ⟨he, q1⟩ := st
    have en : i = us.toArray.size := by rw [List.size_toArray, ← rx.length]; exact ei
    subst en
    exact (goE (elts := elts) (kk := kk) (tpos := tpos) I hc h1 h2 h3 us).stops s (fun s1 => Inv X pins σ H s1) E ⟨he, q1, cx⟩ fun h' tk hk htk => I.turnedL (ch := [e, it]) (fun c o hb q' => hk c o hb q') hf
  self := fun A i s Q E st h => let ⟨⟨_, he⟩, _⟩ := st; wpAny_pyIter_enum he h
set_option maxHeartbeats 1000000 in
theorem enum1_meets {u : Value} {ob : Obj} {C : Heap → Prop} (B : Begins u ob C) :
    Meets (Builtin.«enumerate.__new__» ⟨[.type "enumerate", u], []⟩) (fun _ R s => C s.heap ∧ R (.ok (.ret (.ref (s.heap.push ob).objs.size))) { s with heap := (s.heap.push ob).push { cls := .type "enumerate", data := .fields #[.none, .bool false, .ref s.heap.objs.size, rawInt 0, .none, .none] } }) :=
  .of_wp fun prog w A R s ⟨c, hR⟩ => by
    obtain ⟨hp, gn, dr, tk, os⟩ := s
    have sub1 := sub_enumerate
    have it1 : ∀ {A1 : Around} {E1 : Value → Shared → Prop} {Q1 : Value → Shared → Prop}, Q1 (.ref hp.objs.size) ⟨hp.push ob, gn, dr, tk, os⟩ → wpAny (model prog w) A1 (pyIter u) Q1 E1 ⟨hp, gn, dr, tk, os⟩ :=
      fun z => B.iter prog w _ _ ⟨hp, gn, dr, tk, os⟩ _ c z
    wp_walk using it1
    refine wpAny_stack_any fun _ => wpAny_pure ?_
    split
    · rename_i cl _ _ _ _ _
      cases (cl == Value.type "enumerate") <;> (wp_walk using it1; exact ⟨_, rfl, hR⟩)
    · wp_walk using it1
      exact ⟨_, rfl, hR⟩
theorem enum1_begins {P : Program} {w : World} {A : Around} {E : Value → Shared → Prop} {s : Shared} {u : Value} {ob : Obj} {C : Heap → Prop} {Q : Value → Shared → Prop} (B : Begins u ob C) (c : C s.heap)
    (h : ∀ h', IsEnum h' (s.heap.objs.size + 1) s.heap.objs.size 0 .none → h'.get? s.heap.objs.size = some ob → (∀ b o, s.heap.get? b = some o → h'.get? b = some o) → Q (.ref (s.heap.objs.size + 1)) { s with heap := h' }) :
    wpAny (model P w) A (call (.type "enumerate") [u]) Q E s := by
  refine callType_new F.called_enumerate (by decide) (F.typeCall_enumerate_1 _) (F.newCall_enumerate_1 _) (fun obj => F.args_object_init_2 obj _) F.entry_enumerate_new (enum1_meets B) ⟨c, ?_⟩
  have z1 : (s.heap.push ob).objs.size = s.heap.objs.size + 1 := Heap.size_push ..
  show _ ∧ _
  have g := Heap.get?_push_size (s.heap.push ob) (o := { cls := .type "enumerate", data := .fields #[.none, .bool false, .ref s.heap.objs.size, rawInt 0, .none, .none] }) rfl
  rw [z1] at g ⊢
  exact ⟨⟨_, g, rfl⟩, h _ g (Heap.get?_push_of_some _ (Heap.get?_push_size _ B.free)) fun b o x => Heap.get?_push_of_some _ (Heap.get?_push_of_some _ x)⟩
def iEnumB (K : PySem.W.Frag) (ta : TA) : TI := fun σ H R => ta σ H fun vs H1 => ∃ (k : Bool) (a : Addr) (xs : List V), vs = [.ref a] ∧ SqB K k H1 a xs ∧ R (IteB K k a) H1
theorem pi_enumB {X : Cx} {e : Expr} {ta : TA} {p pos tpos : Pos} {elts : List Expr} {kk : Nat} (hg : Gl X "enumerate") (hm : X.mg "enumerate" = none) (ha : PA X [e] ta) (hs : starEach [e] X.env = [(false, eval e X.env)] := by rfl) :
    PI X (.Tuple elts kk tpos) (.Call (.Name "enumerate" p) [e] [] pos) (iEnumB X.K ta) := ⟨fun pins s σ H R I h => by
  refine Call_ (ld_blt I hg hm boot_enumerate (PyProof.Rows.callWith_type1 (thn (ha.run pos pins s σ H _ I h) fun us s1 ⟨vs, H1, I1, r1, q1⟩ => ?_) hs rfl))
  obtain ⟨k, a, xs, rfl, sx, q⟩ := q1
  cases r1 with
  | cons r rr =>
    cases rr
    cases r
    obtain ⟨us, rx, cx⟩ := SqB.of I1 sx
    refine enum1_begins (begB k a us.toArray) cx fun h' he g1 hk => wpAny_pyIter_enum he ?_
    have I2 : Inv X pins σ H1 { s1 with heap := h' } := I1.kept (t' := s1.toks) hk
    refine ⟨s1.heap.objs.size + 1, [s1.heap.objs.size + 1, s1.heap.objs.size], _, _, H1, rfl, I2,
      turn_enumB (Nat.ne_of_lt cx.lt) (Nat.succ_ne_self _) (Nat.ne_of_gt (Nat.lt_succ_of_lt cx.lt)), ⟨⟨.none, he⟩, ItB.new g1⟩, fun c m => ?_, q⟩
    have hle : s1.heap.objs.size ≤ c := by
      rcases mem2 m with z | z
      · rw [z]; exact Nat.le_add_right _ _
      · rw [z]; exact Nat.le_refl _
    exact I1.fpOk hle (I1.hok.fresh hle)⟩

/-! their rules -/
/-- a sequence of either kind, for a walk -/
def wkS (w : W) (S : Store) : Option Wk := match wkL w S with
  | some x => some x
  | none => wkT w
theorem wkS_ok {K : PySem.W.Frag} {η : List Addr} {H : Hp} {S : Store} {w : W} {v : V} {x : Wk} (e : wkS w S = some x) (rp : Rp K η H S) (r : RepW K η H w v) : ∃ (k : Bool) (a : Addr) (vs : List V), v = .ref a ∧ SqB K k H a vs ∧ StayW K x η H (fun H' vs => SqB K k H' a vs) := by
  unfold wkS at e
  split at e
  · rename_i y q
    cases e
    exact ⟨true, wkL_ok q rp r⟩
  · exact ⟨false, wkT_ok e r⟩
def ItsB (K : PySem.W.Frag) (k : Bool) (a : Addr) : It := match k with
  | true => Itl K a
  | false => Itt K a
theorem turn_seqB {P : Program} {w : World} {K : PySem.W.Frag} {tg : Expr} (k : Bool) (a it : Addr) : Turn P w K tg (ItsB K k a) [it] it (fun i h => ItB k h it a i) := by
  cases k
  · exact turn_tuple a it
  · exact turn_list a it
theorem walk_s {k : Bool} {K : PySem.W.Frag} {η : List Addr} {H : Hp} {a : Addr} {x : Wk} (st : StayW K x η H (fun H' vs => SqB K k H' a vs)) : WalkOk K x η H (ItsB K k a) := by
  cases k
  · exact walk_t st
  · exact walk_l st
def iSeqB (K : PySem.W.Frag) (te : TE) : TI := fun σ H R => te σ H fun v H1 => ∃ (k : Bool) (a : Addr) (xs : List V), v = .ref a ∧ SqB K k H1 a xs ∧ R (ItsB K k a) H1
theorem pi_seqB {X : Cx} {tg e : Expr} {te : TE} (he : PE X e te) : PI X tg e (iSeqB X.K te) := ⟨fun pins s σ H R I h => thn (he.run pins s σ H _ I h) fun u s1 ⟨v, H1, I1, r1, k, a, xs, hv, sx, q⟩ => by
  subst hv
  cases r1
  obtain ⟨us, rx, cx⟩ := SqB.of I1 sx
  refine (begB k a us.toArray).iter _ _ _ _ _ _ cx ⟨s1.heap.objs.size, [s1.heap.objs.size], _, _, H1, rfl, I1.kept (t' := s1.toks) fun b o z => Heap.get?_push_of_some _ z, turn_seqB k a _, ItB.new (Heap.get?_push_size _ (begB k a us.toArray).free), fun b m => ?_, q⟩
  rw [List.mem_singleton.mp m]
  exact I1.fpOk (Nat.le_refl _) (I1.hok.fresh (Nat.le_refl _))⟩
def fItS (a : FE) : FK := fun ρ S => (a ρ S).bind fun w S1 => seqR (wkS w S1) S1
theorem w_seq {X : Cx} {ct : Nat → Option Addr} {E : EX} {tg e : Expr} {f : FE} (he : PE X e (tF (gx X ct) E f)) : PI X tg e (tI (gx X ct) E (fItS f)) := PIw (pi_seqB he) fun σ H R ⟨η, ρ, S, rp, er, h⟩ =>
  ⟨η, ρ, S, rp, er, FinR.mono (FinR.bind (rel := relW (gx X ct)) h) fun v H1 ⟨η1, w, S1, f1, rp1, r1, h1⟩ => by
    obtain ⟨x, e1, h2⟩ := seqR_fin h1
    obtain ⟨k, a, vs, rfl, hq, st⟩ := wkS_ok e1 rp1 r1
    exact ⟨k, a, vs, rfl, hq, h2 η1 H1 _ (Fu.refl _ _) rp1 (walk_s st)⟩⟩
def pairW (u v : W) : W := mkT [u, v]
def zipK (ws : List W) (S : Store) : R Wk := match ws with
  | [u, v] => match wkS u S, wkS v S with
    | some x, some y => .ok ⟨List.zipWith pairW x.xs y.xs, fun S' => x.ok S' ∧ y.ok S'⟩ S
    | _, _ => .bad
  | _ => .bad
def enumW : Nat → List W → List W
  | _, [] => []
  | i, w :: ws => mkT [.d (.int (i : Nat)), w] :: enumW (i + 1) ws
def enumK (ws : List W) (S : Store) : R Wk := match ws with
  | [u] => match wkS u S with
    | some x => .ok ⟨enumW 0 x.xs, x.ok⟩ S
    | none => .bad
  | _ => .bad
theorem RepW.pair {K : PySem.W.Frag} {η : List Addr} {H : Hp} {w u : W} {v v' : V} {T : Addr} (hT : H T = none) (r : RepW K η H w v) (r' : RepW K η H u v') : RepW K η (upd H T (.tup [v, v'])) (mkT [w, u]) (.ref T) :=
  RepWs.mk (SqT.of upd_same) (.cons (RepW.fu (fu_new hT) _ _ r) (.cons (RepW.fu (fu_new hT) _ _ r') .nil))
theorem walk_z {k1 k2 : Bool} {K : PySem.W.Frag} {η : List Addr} {H : Hp} {a b : Addr} {x y : Wk} (s1 : StayW K x η H (fun H' vs => SqB K k1 H' a vs)) (s2 : StayW K y η H (fun H' vs => SqB K k2 H' b vs)) :
    WalkOk K ⟨List.zipWith pairW x.xs y.xs, fun S' => x.ok S' ∧ y.ok S'⟩ η H (ItzB K k1 k2 a b) where
  stop := fun η' H' S' f rp ok => by
    obtain ⟨vs, h1, h2⟩ := s1 η' H' S' f rp ok.1
    obtain ⟨us, h3, h4⟩ := s2 η' H' S' f rp ok.2
    exact ⟨vs, us, h1, h3, by rw [List.length_zipWith, h2.length, h4.length]⟩
  go := fun η' H' S' i w f rp ok e => by
    obtain ⟨vs, h1, h2⟩ := s1 η' H' S' f rp ok.1
    obtain ⟨us, h3, h4⟩ := s2 η' H' S' f rp ok.2
    obtain ⟨p, q, ep, eq, ew⟩ := List.getElem?_zipWith_eq_some.mp e
    obtain ⟨v, ev, rv⟩ := h2.get ep
    obtain ⟨u, eu, ru⟩ := h4.get eq
    refine ⟨⟨vs, us, v, u, h1, h3, ev, eu⟩, fun z H'' yl => ?_⟩
    obtain ⟨T, v', u', rfl, hT, rfl, c1, c2⟩ := yl
    have e1 := c1 vs h1
    have e2 := c2 us h3
    rw [ev] at e1
    rw [eu] at e2
    cases e1
    cases e2
    rw [← ew]
    exact ⟨fu_new hT, rp.new hT, RepW.pair hT rv ru⟩
theorem enumW_length : ∀ (ws : List W) (i : Nat), (enumW i ws).length = ws.length
  | [], _ => rfl
  | _ :: ws, i => by rw [enumW, List.length_cons, List.length_cons, enumW_length ws]
theorem enumW_get : ∀ {ws : List W} {j i : Nat} {w : W}, (enumW j ws)[i]? = some w → ∃ u, ws[i]? = some u ∧ w = mkT [.d (.int ((j + i : Nat) : Int)), u]
  | [], _, _, _, e => by rw [enumW] at e; simp at e
  | u :: ws, j, 0, w, e => by
    rw [enumW] at e
    simp at e
    exact ⟨u, by simp, e.symm⟩
  | u :: ws, j, i + 1, w, e => by
    rw [enumW] at e
    obtain ⟨t, e1, e2⟩ := enumW_get (ws := ws) (j := j + 1) (i := i) (by simpa using e)
    refine ⟨t, by simpa using e1, ?_⟩
    rw [e2]
    have z : j + 1 + i = j + (i + 1) := by omega
    rw [z]
theorem walk_e {k : Bool} {K : PySem.W.Frag} {η : List Addr} {H : Hp} {a : Addr} {x : Wk} (s1 : StayW K x η H (fun H' vs => SqB K k H' a vs)) : WalkOk K ⟨enumW 0 x.xs, x.ok⟩ η H (IteB K k a) where
  stop := fun η' H' S' f rp ok => by
    obtain ⟨vs, h1, h2⟩ := s1 η' H' S' f rp ok
    exact ⟨vs, h1, by show (enumW 0 x.xs).length = vs.length; rw [enumW_length, h2.length]⟩
  go := fun η' H' S' i w f rp ok e => by
    obtain ⟨vs, h1, h2⟩ := s1 η' H' S' f rp ok
    obtain ⟨p, ep, rfl⟩ := enumW_get e
    obtain ⟨v, ev, rv⟩ := h2.get ep
    refine ⟨⟨vs, v, h1, ev⟩, fun z H'' yl => ?_⟩
    obtain ⟨T, v', rfl, hT, rfl, c1⟩ := yl
    have e1 := c1 vs h1
    rw [ev] at e1
    cases e1
    rw [Nat.zero_add]
    exact ⟨fu_new hT, rp.new hT, RepW.pair hT (.d (.int _)) rv⟩
section
variable {X : Cx} {ct : Nat → Option Addr} {E : EX}
theorem w_zip {e e2 : Expr} {fa : FA} {p pos tpos : Pos} {elts : List Expr} {kk : Nat} (hg : Gl X "zip") (hm : X.mg "zip" = none) (ha : PA X [e, e2] (tA (gx X ct) E fa))
    (hs : starEach [e, e2] X.env = (false, eval e X.env) :: starEach [e2] X.env := by rfl) (hpl : (backTo pos (starEach [e2] X.env)).any (·.1) = false := by rfl) :
    PI X (.Tuple elts kk tpos) (.Call (.Name "zip" p) [e, e2] [] pos) (tI (gx X ct) E (fRng zipK fa)) := PIw (pi_zipB hg hm ha hs hpl) fun σ H R ⟨η, ρ, S, rp, er, h⟩ => ⟨η, ρ, S, rp, er, by
    refine FinR.mono (FinR.bind (rel := relL (gx X ct)) h) fun v H1 ⟨η1, w, S1, f1, rp1, r1, h1⟩ => ?_
    unfold zipK at h1
    split at h1
    · rename_i u t
      split at h1
      · rename_i x y ex ey
        obtain ⟨v1, v2, rfl, r2, r3⟩ := repWs2 r1
        obtain ⟨k1, a, vs, rfl, q1, s1⟩ := wkS_ok ex rp1 r2
        obtain ⟨k2, b, us, rfl, q2, s2⟩ := wkS_ok ey rp1 r3
        exact ⟨k1, k2, a, b, vs, us, rfl, q1, q2, h1 η1 H1 _ (Fu.refl _ _) rp1 (walk_z s1 s2)⟩
      · exact h1.elim
    · exact h1.elim⟩
theorem w_enum {e : Expr} {fa : FA} {p pos tpos : Pos} {elts : List Expr} {kk : Nat} (hg : Gl X "enumerate") (hm : X.mg "enumerate" = none) (ha : PA X [e] (tA (gx X ct) E fa)) (hs : starEach [e] X.env = [(false, eval e X.env)] := by rfl) :
    PI X (.Tuple elts kk tpos) (.Call (.Name "enumerate" p) [e] [] pos) (tI (gx X ct) E (fRng enumK fa)) := PIw (pi_enumB hg hm ha hs) fun σ H R ⟨η, ρ, S, rp, er, h⟩ => ⟨η, ρ, S, rp, er, by
    refine FinR.mono (FinR.bind (rel := relL (gx X ct)) h) fun v H1 ⟨η1, w, S1, f1, rp1, r1, h1⟩ => ?_
    unfold enumK at h1
    split at h1
    · rename_i u
      split at h1
      · rename_i x ex
        obtain ⟨v1, rfl, r2⟩ := repWs1 r1
        obtain ⟨k, a, vs, rfl, q1, s1⟩ := wkS_ok ex rp1 r2
        exact ⟨k, a, vs, rfl, q1, h1 η1 H1 _ (Fu.refl _ _) rp1 (walk_e s1)⟩
      · exact h1.elim
    · exact h1.elim⟩
end
end VI
set_option Elab.async false
set_option linter.all false
set_option maxRecDepth 100000
namespace VI
open PySem PySem.Spec PyProof.Rows L2
open Classical

/-! for -/
/-- the turns of a loop -/
noncomputable def forL (ok : Store → Prop) (g : FG) (b : FS) : List W → Rho → Store → RF
  | [], ρ, S => if ok S then .next ρ S else .bad
  | w :: ws, ρ, S => if ok S then (match g w ρ with
    | none => .bad
    | some ρ1 => match b ρ1 S with
      | .next ρ2 S2 => forL ok g b ws ρ2 S2
      | .cnt ρ2 S2 => forL ok g b ws ρ2 S2
      | .brk ρ2 S2 => .next ρ2 S2
      | r => r) else .bad
noncomputable def fFor (it : FK) (g : FG) (b : FS) : FS := fun ρ S => toS ρ (it ρ S) fun x S1 => forL x.ok g b x.xs ρ S1
section
variable {X : Cx} {ct : Nat → Option Addr} {E : EX}
theorem for_ok {ok : Store → Prop} {g : FG} {b : FS} {ws : List W} {ρ : Rho} {S : Store} {η : List Addr} {H : Hp} {D : Ends} (h : FinS (gx X ct) E η H (forL ok g b ws ρ S) D) : ok S := by
  by_cases q : ok S
  · exact q
  · cases ws <;> (rw [forL, if_neg q] at h; exact h.elim)
theorem s_for {tg iter : Expr} {body : List Stmt} {it : FK} {g : FG} {b : FS} {pos : Pos} (hp : PassesOwn (model X.prog X.w) X.A X.env X.xe) (hc : X.calm = true) (hi : PI X tg iter (tI (gx X ct) E it)) (hg : PG X tg (tG (gx X ct) g)) (hb : PSs X body (tS (gx X ct) E b))
    (hs : ∀ x, foldedSetIterable iter X.env x = pure x := by intro _; rfl) : PS X (.For tg iter body [] pos) (tS (gx X ct) E (fFor it g b)) := PSw (ps_for hp hc hi hg hb hs) fun D σ H ⟨η, ρ, S, rp, er, h⟩ =>
  ⟨η, ρ, S, rp, er, FinR.mono (FinS.bind er h) fun J H1 ⟨η1, x, S1, f1, rp1, wk, h1⟩ => by
    refine ⟨fun i m σ H => m = x.xs.length - i ∧ i ≤ x.xs.length ∧ ∃ η' ρ' S', Fu η1 H1 η' H ∧ Rp X.K η' H S' ∧ ERep X.K η' H ρ' σ ∧ FinS (gx X ct) E η' H (forL x.ok g b (x.xs.drop i) ρ' S') D,
      ⟨x.xs.length, rfl, Nat.zero_le _, η1, ρ, S1, Fu.refl _ _, rp1, er.fu f1, h1⟩, ?_⟩
    rintro i m σ H ⟨rfl, hi, η', ρ', S', f', rp', er', h'⟩
    have ok := for_ok h'
    by_cases hlt : i < x.xs.length
    · have ew : x.xs[i]? = some x.xs[i] := List.getElem?_eq_getElem hlt
      rw [List.drop_eq_getElem_cons hlt, forL, if_pos ok] at h'
      obtain ⟨go, yl⟩ := wk.go η' H S' i _ f' rp' ok ew
      refine .inr ⟨go, fun σ H => ∃ η' ρ' S', Fu η1 H1 η' H ∧ Rp X.K η' H S' ∧ ERep X.K η' H ρ' σ ∧ FinS (gx X ct) E η' H (forL x.ok g b (x.xs.drop (i + 1)) ρ' S') D, fun σ' H' q => ⟨_, by omega, rfl, hlt, q⟩, fun y H' yy => ?_⟩
      obtain ⟨f2, rp2, r2⟩ := yl y H' yy
      cases eg : g x.xs[i] ρ' with
      | none => rw [eg] at h'; exact h'.elim
      | some ρ1 =>
        rw [eg] at h'
        dsimp only at h'
        refine ⟨η', ρ', _, ρ1, r2, er'.fu f2, eg, fun σ2 er2 => ⟨η', ρ1, S', rp2, er2, ?_⟩⟩
        have h2 := FinS.fu f2 h'
        have f3 := f'.trans f2
        cases eb : b ρ1 S' with
        | next ρ2 S2 => rw [eb] at h2; exact fun η3 H3 σ3 f4 rp3 er3 => ⟨η3, ρ2, S2, f3.trans f4, rp3, er3, FinS.fu f4 h2⟩
        | cnt ρ2 S2 => rw [eb] at h2; exact fun η3 H3 σ3 f4 rp3 er3 => ⟨η3, ρ2, S2, f3.trans f4, rp3, er3, FinS.fu f4 h2⟩
        | brk ρ2 S2 => rw [eb] at h2; exact h2
        | ret w S2 => rw [eb] at h2; exact h2
        | exc c fs ρ2 S2 => rw [eb] at h2; exact h2
        | bad => rw [eb] at h2; exact h2
    · have ei : i = x.xs.length := by omega
      subst ei
      rw [List.drop_eq_nil_of_le (Nat.le_refl _), forL, if_pos ok] at h'
      exact .inl ⟨wk.stop η' H S' f' rp' ok, h' η' H σ (Fu.refl _ _) rp' er'⟩⟩
end

/-! comprehensions -/
def wipeR (ρ : Rho) : List Nat → Rho
  | [] => ρ
  | v :: vs => (wipeR ρ vs).set v none
theorem ERep.drop1 {K : PySem.W.Frag} {η : List Addr} {H : Hp} {ρ : Rho} {σ : L2.St} (e : ERep K η H ρ σ) (i : Nat) : ERep K η H (ρ.set i none) (σ.set i none) := by
  refine ⟨by rw [List.length_set, List.length_set]; exact e.1, fun j w h => ?_⟩
  by_cases hj : j = i
  · subst hj
    rw [List.getElem?_set] at h
    simp at h
  · rw [List.getElem?_set_ne (Ne.symm hj)] at h
    rw [List.getElem?_set_ne (Ne.symm hj)]
    exact e.2 j w h
theorem ERep.wipe {K : PySem.W.Frag} {η : List Addr} {H : Hp} {ρ : Rho} {σ : L2.St} (e : ERep K η H ρ σ) : ∀ vs : List Nat, ERep K η H (wipeR ρ vs) (L2.wipe σ vs)
  | [] => e
  | v :: vs => (ERep.wipe e vs).drop1 v
theorem wipe_at (σ : L2.St) (j : Nat) : ∀ vs : List Nat, (L2.wipe σ vs)[j]? = if j ∈ vs ∧ j < σ.length then some none else σ[j]?
  | [] => by simp [L2.wipe]
  | v :: vs => by
    rw [L2.wipe, List.getElem?_set, wipe_at σ j vs, wipe_length]
    by_cases e : v = j
    · subst e
      by_cases l : v < σ.length
      · simp [l]
      · simp [l, List.getElem?_eq_none (Nat.le_of_not_lt l)]
    · have : j ≠ v := fun z => e z.symm
      simp [e, this]
theorem wipe_set {σ : L2.St} {i : Nat} {x : Option V} {vs : List Nat} (h : i ∈ vs) : L2.wipe (σ.set i x) vs = L2.wipe σ vs := by
  refine List.ext_getElem? fun j => ?_
  rw [wipe_at, wipe_at, List.length_set]
  by_cases e : j ∈ vs ∧ j < σ.length
  · rw [if_pos e, if_pos e]
  · rw [if_neg e, if_neg e]
    by_cases z : i = j
    · subst z
      have : ¬ i < σ.length := fun l => e ⟨h, l⟩
      rw [List.getElem?_eq_none (by rw [List.length_set]; omega), List.getElem?_eq_none (by omega)]
    · rw [List.getElem?_set_ne z]
/-- targets of a block's own names -/
def tGb (G : Gc) (vs : List Nat) (g : FG) : TG := fun v σ H Q => ∃ η ρ w ρ', RepW G.K η H w v ∧ ERep G.K η H ρ σ ∧ g w ρ = some ρ' ∧ ∀ σ', ERep G.K η H ρ' σ' → L2.wipe σ' vs = L2.wipe σ vs → Q σ' H
def tGbs (G : Gc) (vs : List Nat) (g : FGs) : TGs := fun us σ H Q => ∃ η ρ ws ρ', RepWs G.K η H ws us ∧ ERep G.K η H ρ σ ∧ g ws ρ = some ρ' ∧ ∀ σ', ERep G.K η H ρ' σ' → L2.wipe σ' vs = L2.wipe σ vs → Q σ' H
section
variable {X : Cx} {G : Gc} {vs : List Nat}
theorem gb_name (i : Nat) {x : Str} {pos : Pos} (hN : X.N.Nodup) (hG : G.K = X.K) (hm : i ∈ vs) (hi : X.N[i]? = some x := by rfl) (hx : Loc X.env.scope x := by first | exact Or.inl rfl | exact Or.inr rfl) (hf : X.fn x = true ∨ X.env.scope.names.lookup x = some .local := by first | exact .inl rfl | exact .inr rfl) :
    PG X (.Name x pos) (tGb G vs (gtName i)) := PGw (pg_name hN hi hx hf) fun v σ H Q ⟨η, ρ, w, ρ', r, er, e, h⟩ => by
  cases e
  exact h _ (er.set r) (wipe_set hm)
theorem gbs_nil : PGs X [] (tGbs G vs gtNil) := PGsw pgs_nil fun v σ H Q ⟨η, ρ, w, ρ', r, er, e, h⟩ => by
  unfold gtNil at e
  split at e
  · cases e
    cases r
    exact ⟨rfl, h _ er rfl⟩
  · cases e
theorem gbs_cons {e : Expr} {es : List Expr} {g : FG} {gs : FGs} (h1 : PG X e (tGb G vs g)) (h2 : PGs X es (tGbs G vs gs)) (hs : (assignEach (e :: es) X.env).map (·.2) = assign e X.env :: (assignEach es X.env).map (·.2) := by rfl) :
    PGs X (e :: es) (tGbs G vs (gtCons g gs)) := PGsw (pgs_cons h1 h2 hs) fun v σ H Q ⟨η, ρ, w, ρ', r, er, e, h⟩ => by
  unfold gtCons at e
  split at e
  · rename_i w0 ws
    cases r with
    | cons r1 r2 =>
      split at e
      · rename_i ρ1 e1
        exact ⟨_, _, rfl, η, ρ, w0, ρ1, r1, er, e1, fun σ1 er1 z1 => ⟨η, ρ1, ws, ρ', r2, er1, e, fun σ2 er2 z2 => h σ2 er2 (z2.trans z1)⟩⟩
      · cases e
  · cases e
theorem gb_tup {es : List Expr} {k n : Nat} {pos : Pos} {gs : FGs} (hc : X.calm = true) (hG : G.K = X.K) (h : PGs X es (tGbs G vs gs)) (hn : (assignEach es X.env).length = n := by rfl) (hst : (assignEach es X.env).findIdx? (·.1) = none := by rfl) :
    PG X (.Tuple es k pos) (tGb G vs (gtTup n gs)) := PGw (pg_tup hc h hn hst) fun v σ H Q ⟨η, ρ, w, ρ', r, er, e, h⟩ => by
  unfold gtTup at e
  split at e
  · rename_i ws e1
    obtain ⟨a, us, rfl, h1, h2⟩ := asTW_ok e1 r
    split at e
    · rename_i hl
      exact ⟨a, us, rfl, hG ▸ h1, by rw [← h2.length]; exact hl, η, ρ, ws, ρ', h2, er, e, h⟩
    · cases e
  · cases e
end
def noX {α : Type} : R α → R α
  | .exc _ _ _ => .bad
  | r => r
theorem FinR.noX {α β : Type} {G : Gc} {rel : α → List Addr → Hp → β → Prop} {Z Z' : XK} {η : List Addr} {H : Hp} {r : R α} {Q : β → Hp → Prop} (h : FinR G rel Z η H (VI.noX r) Q) : FinR G rel Z' η H r Q := by
  cases r with
  | ok w S => exact h
  | exc c fs S => exact h.elim
  | bad => exact h
/-- a member joins the new list -/
def lcPut (l : Nat) (w : W) (S : Store) : Option Store := match w, S[l]? with
  | .d d, some (.lst ds) => if ds.length < lim then some (S.set l (.lst (ds ++ [d]))) else none
  | _, _ => none
noncomputable def lcL (ok : Store → Prop) (g : FG) (t : FT) (e : FE) (ρ : Rho) (l : Nat) : List W → Store → R W
  | [], S => if ok S then .ok (.loc l) S else .bad
  | w :: ws, S => if ok S then (match g w ρ with
    | none => .bad
    | some ρ1 => (noX (t ρ1 S)).bind fun k S1 => if k = true then (noX (frz S1.length (e ρ1 S1))).bind fun u S2 => (match lcPut l u S2 with
        | some S3 => lcL ok g t e ρ l ws S3
        | none => .bad) else lcL ok g t e ρ l ws S1) else .bad
noncomputable def fLcL (it : FK) (g : FG) (t : FT) (e : FE) (vs : List Nat) : FE := fun ρ S => (it ρ S).bind fun x S1 => lcL x.ok g t e (wipeR ρ vs) S1.length x.xs (S1 ++ [.lst []])
noncomputable def fLc (it : FK) (g : FG) (t : FT) (e : FE) (vs : List Nat) : FE := fun ρ S => frz S.length (fLcL it g t e vs ρ S)
def fYes : FT := fun _ S => .ok true S
section
variable {X : Cx} {ct : Nat → Option Addr} {E : EX}
theorem ts_nil {G : Gc} : PTs X [] (tT G E fYes) := ⟨fun pins s σ H Q I ⟨η, ρ, S, rp, er, h⟩ => pts_nil.run pins s σ H Q I (h η H true (Fu.refl _ _) rp rfl)⟩
theorem ts_one {G : Gc} {c : Expr} {t : FT} (h : PT X c (tT G E t)) : PTs X [c] (tT G E t) := pts_one h
theorem lc_ok {ok : Store → Prop} {g : FG} {t : FT} {e : FE} {ρ : Rho} {l : Nat} {ws : List W} {S : Store} {Z : XK} {η : List Addr} {H : Hp} {Q : VK} (h : FinR (gx X ct) (relW (gx X ct)) Z η H (lcL ok g t e ρ l ws S) Q) : ok S := by
  by_cases q : ok S
  · exact q
  · cases ws <;> (rw [lcL, if_neg q] at h; exact h.elim)
theorem lcPut_ok {l : Nat} {w : W} {S S' : Store} {η : List Addr} {H : Hp} {D : Addr} {y : V} {P : Hp → Prop} (e : lcPut l w S = some S') (rp : Rp X.K η H S) (hD : η[l]? = some D) (r : RepW X.K η H w y) (h : ∀ H', Fu η H η H' → Rp X.K η H' S' → P H') :
    ∃ acc, H D = some (.lst acc) ∧ acc.length < sizeLine ∧ P (upd H D (.lst (acc ++ [y]))) := by
  unfold lcPut at e
  split at e
  · rename_i d ds q
    split at e
    · rename_i hl
      cases e
      cases r with
      | d r =>
        obtain ⟨vs, h1, h2⟩ := rp.all _ _ _ hD q
        have f : Fu η H η (upd H D (.lst (vs ++ [y]))) := fu_write (List.mem_of_getElem? hD) h1 trivial
        exact ⟨vs, h1, by rw [← h2.length, sizeLine_eq]; exact hl, h _ f (rp.write hD ⟨_, upd_same, RepDs.fu f _ _ (h2.append (.cons r .nil))⟩)⟩
    · cases e
  · cases e
theorem lc_key {it : FK} {g : FG} {t : FT} {e : FE} {vs : List Nat} : ∀ σ H Q, tF (gx X ct) E (fLcL it g t e vs) σ H Q → tLc (tI (gx X ct) E it) (tGb (gx X ct) vs g) (tT (gx X ct) (fun _ => E0) t) (tF (gx X ct) (fun _ => E0) e) vs σ H Q := fun σ H Q ⟨η, ρ, S, rp, er, h⟩ =>
  ⟨η, ρ, S, rp, er, FinR.mono (FinR.bind (rel := relJ (gx X ct)) h) fun J H1 ⟨η1, x, S1, f1, rp1, wk, h1⟩ D hD => by
    have rp2 : Rp X.K (η1 ++ [D]) (upd H1 D (.lst [])) (S1 ++ [.lst []]) := rp1.live hD ⟨[], upd_same, .nil⟩
    have f2 : Fu η1 H1 (η1 ++ [D]) (upd H1 D (.lst [])) := fu_live hD
    have lD : S1.length = η1.length := rp1.len.symm
    refine ⟨fun i m H => m = x.xs.length - i ∧ i ≤ x.xs.length ∧ ∃ η' S', Fu (η1 ++ [D]) (upd H1 D (.lst [])) η' H ∧ Rp X.K η' H S' ∧ FinR (gx X ct) (relW (gx X ct)) (E σ) η' H (lcL x.ok g t e (wipeR ρ vs) S1.length (x.xs.drop i) S') Q,
      ⟨x.xs.length, rfl, Nat.zero_le _, η1 ++ [D], _, Fu.refl _ _, rp2, FinR.fu f2 h1⟩, ?_⟩
    rintro i m H ⟨rfl, hi, η', S', f', rp', h'⟩
    have ok := lc_ok h'
    have gD : ∀ {η2 : List Addr} {H2 : Hp}, Fu (η1 ++ [D]) (upd H1 D (.lst [])) η2 H2 → η2[S1.length]? = some D := fun f => f.get (by rw [lD, List.getElem?_append_right (Nat.le_refl _)]; simp)
    by_cases hlt : i < x.xs.length
    · have ew : x.xs[i]? = some x.xs[i] := List.getElem?_eq_getElem hlt
      rw [List.drop_eq_getElem_cons hlt, lcL, if_pos ok] at h'
      obtain ⟨go, yl⟩ := wk.go η' H S' i _ (f2.trans f') rp' ok ew
      refine .inr ⟨go, fun H => ∃ η' S', Fu (η1 ++ [D]) (upd H1 D (.lst [])) η' H ∧ Rp X.K η' H S' ∧ FinR (gx X ct) (relW (gx X ct)) (E σ) η' H (lcL x.ok g t e (wipeR ρ vs) S1.length (x.xs.drop (i + 1)) S') Q, fun H' q => ⟨_, by omega, rfl, hlt, q⟩, fun y H' yy => ?_⟩
      obtain ⟨f3, rp3, r3⟩ := yl y H' yy
      cases eg : g x.xs[i] (wipeR ρ vs) with
      | none => rw [eg] at h'; exact h'.elim
      | some ρ1 =>
        rw [eg] at h'
        dsimp only at h'
        have h2 := FinR.fu f3 h'
        have f4 := f'.trans f3
        refine ⟨η', wipeR ρ vs, _, ρ1, r3, (((er.fu f1).fu f2).fu f4).wipe vs, eg, fun σ2 er2 z2 => ⟨?_, η', ρ1, S', rp3, er2, ?_⟩⟩
        · rw [z2]
          refine List.ext_getElem? fun j => ?_
          rw [wipe_at, wipe_at, wipe_length]
          by_cases q : j ∈ vs ∧ j < σ.length
          · rw [if_pos q, if_pos q]
          · rw [if_neg q, if_neg q]
        refine FinR.noX (FinR.mono (FinR.bind (rel := relB) h2) fun k H5 ⟨η5, k', S5, f5, rp5, rk, h5⟩ => ?_)
        obtain rfl : k = k' := rk
        have f45 := f4.trans f5
        by_cases hk : k = true
        · rw [if_pos hk] at h5 ⊢
          refine ⟨η5, ρ1, S5, rp5, er2.fu f5, FinR.frz rp5 (FinR.noX (FinR.mono (FinR.bind (rel := relW (gx X ct)) h5) fun y H6 ⟨η6, u, S6, f6, rp6, r6, h6⟩ => ?_))⟩
          split at h6
          · rename_i S7 e7
            exact lcPut_ok (P := fun H => ∃ η' S', Fu (η1 ++ [D]) (upd H1 D (.lst [])) η' H ∧ Rp X.K η' H S' ∧ FinR (gx X ct) (relW (gx X ct)) (E σ) η' H (lcL x.ok g t e (wipeR ρ vs) S1.length (x.xs.drop (i + 1)) S') Q) e7 rp6 (gD (f45.trans f6)) r6 fun H7 f7 rp7 => ⟨η6, S7, (f45.trans f6).trans f7, rp7, FinR.fu f7 h6⟩
          · exact h6.elim
        · rw [if_neg hk] at h5 ⊢
          exact ⟨η5, S5, f45, rp5, h5⟩
    · have ei : i = x.xs.length := by omega
      subst ei
      rw [List.drop_eq_nil_of_le (Nat.le_refl _), lcL, if_pos ok] at h'
      exact .inl ⟨wk.stop η' H S' (f2.trans f') rp' ok, h' η' H _ (Fu.refl _ _) rp' (.loc (gD f'))⟩⟩
variable {elt tg iter : Expr} {ifs : List Expr} {scope : Scope} {own : List (Str × Nat)} {pos spos : Pos} {it : FK} {g : FG} {t : FT} {e : FE}
theorem i_lcL (hc : X.calm = true) (hN : X.N.Nodup) (hi : PI X tg iter (tI (gx X ct) E it)) (ok : BlkOk X.N X.env.scope scope own)
    (hg : ∀ (s : Shared) (H : Hp) (C : Addr) (cl : List (Str × Addr)) (fp : List Addr), PG (X.blk s H scope (compEnvC scope cl C X.env) fp) tg (tGb (gx X ct) (own.map (·.2)) g))
    (ht : ∀ (s : Shared) (H : Hp) (C : Addr) (cl : List (Str × Addr)) (fp : List Addr), PTs (X.blk s H scope (compEnvC scope cl C X.env) fp) ifs (tT (gx X ct) (fun _ => E0) t))
    (he : ∀ (s : Shared) (H : Hp) (C : Addr) (cl : List (Str × Addr)) (fp : List Addr), PE (X.blk s H scope (compEnvC scope cl C X.env) fp) elt (tF (gx X ct) (fun _ => E0) e)) (hs : ∀ x, foldedSetIterable iter X.env x = pure x := by intro _; rfl) :
    PE X (.ListComp elt [⟨tg, iter, ifs, 0⟩] scope pos) (tF (gx X ct) E (fLcL it g t e (own.map (·.2)))) := PEw (pe_lc hc hN hi ok hg ht he hs) lc_key
theorem i_lc (hc : X.calm = true) (hN : X.N.Nodup) (hi : PI X tg iter (tI (gx X ct) E it)) (ok : BlkOk X.N X.env.scope scope own)
    (hg : ∀ (s : Shared) (H : Hp) (C : Addr) (cl : List (Str × Addr)) (fp : List Addr), PG (X.blk s H scope (compEnvC scope cl C X.env) fp) tg (tGb (gx X ct) (own.map (·.2)) g))
    (ht : ∀ (s : Shared) (H : Hp) (C : Addr) (cl : List (Str × Addr)) (fp : List Addr), PTs (X.blk s H scope (compEnvC scope cl C X.env) fp) ifs (tT (gx X ct) (fun _ => E0) t))
    (he : ∀ (s : Shared) (H : Hp) (C : Addr) (cl : List (Str × Addr)) (fp : List Addr), PE (X.blk s H scope (compEnvC scope cl C X.env) fp) elt (tF (gx X ct) (fun _ => E0) e)) (hs : ∀ x, foldedSetIterable iter X.env x = pure x := by intro _; rfl) :
    PE X (.ListComp elt [⟨tg, iter, ifs, 0⟩] scope pos) (tF (gx X ct) E (fLc it g t e (own.map (·.2)))) := PEw (i_lcL hc hN hi ok hg ht he hs) fun σ H Q ⟨η, ρ, S, rp, er, h⟩ => ⟨η, ρ, S, rp, er, FinR.frz rp h⟩
theorem s_setLcL (i : Nat) {y : Str} {py : Pos} (hc : X.calm = true) (hN : X.N.Nodup) (hsw : swapsWith (.ListComp elt [⟨tg, iter, ifs, 0⟩] scope pos) (some (.Name y py)) spos.line X.env = pure true) (hi : PI X tg iter (tI (gx X ct) E it)) (ok : BlkOk X.N X.env.scope scope own)
    (hg : ∀ (s : Shared) (H : Hp) (C : Addr) (cl : List (Str × Addr)) (fp : List Addr), PG (X.blk s H scope (compEnvC scope cl C X.env) fp) tg (tGb (gx X ct) (own.map (·.2)) g))
    (ht : ∀ (s : Shared) (H : Hp) (C : Addr) (cl : List (Str × Addr)) (fp : List Addr), PTs (X.blk s H scope (compEnvC scope cl C X.env) fp) ifs (tT (gx X ct) (fun _ => E0) t))
    (he : ∀ (s : Shared) (H : Hp) (C : Addr) (cl : List (Str × Addr)) (fp : List Addr), PE (X.blk s H scope (compEnvC scope cl C X.env) fp) elt (tF (gx X ct) (fun _ => E0) e)) (hy : X.N[i]? = some y := by rfl) (hyl : X.env.scope.names.lookup y = some .local := by rfl) (hs : ∀ x, foldedSetIterable iter X.env x = pure x := by intro _; rfl) :
    PS X (.Assign [.Name y py] (.ListComp elt [⟨tg, iter, ifs, 0⟩] scope pos) spos) (tS (gx X ct) E (fAsg (fLcL it g t e (own.map (·.2))) (gtName i))) := PSw (ps_setLc hc hN hy hyl hsw hi ok hg ht he hs) fun D σ H ⟨η, ρ, S, rp, er, h⟩ =>
  lc_key _ _ _ ⟨η, ρ, S, rp, er, FinR.mono (FinS.bind er h) fun v H1 ⟨η1, w, S1, f1, rp1, r1, h1⟩ => h1 η1 H1 _ (Fu.refl _ _) rp1 ((er.fu f1).set r1)⟩
theorem s_setLc (i : Nat) {y : Str} {py : Pos} (hc : X.calm = true) (hN : X.N.Nodup) (hsw : swapsWith (.ListComp elt [⟨tg, iter, ifs, 0⟩] scope pos) (some (.Name y py)) spos.line X.env = pure true) (hi : PI X tg iter (tI (gx X ct) E it)) (ok : BlkOk X.N X.env.scope scope own)
    (hg : ∀ (s : Shared) (H : Hp) (C : Addr) (cl : List (Str × Addr)) (fp : List Addr), PG (X.blk s H scope (compEnvC scope cl C X.env) fp) tg (tGb (gx X ct) (own.map (·.2)) g))
    (ht : ∀ (s : Shared) (H : Hp) (C : Addr) (cl : List (Str × Addr)) (fp : List Addr), PTs (X.blk s H scope (compEnvC scope cl C X.env) fp) ifs (tT (gx X ct) (fun _ => E0) t))
    (he : ∀ (s : Shared) (H : Hp) (C : Addr) (cl : List (Str × Addr)) (fp : List Addr), PE (X.blk s H scope (compEnvC scope cl C X.env) fp) elt (tF (gx X ct) (fun _ => E0) e)) (hy : X.N[i]? = some y := by rfl) (hyl : X.env.scope.names.lookup y = some .local := by rfl) (hs : ∀ x, foldedSetIterable iter X.env x = pure x := by intro _; rfl) :
    PS X (.Assign [.Name y py] (.ListComp elt [⟨tg, iter, ifs, 0⟩] scope pos) spos) (tS (gx X ct) E (fAsg (fLc it g t e (own.map (·.2))) (gtName i))) := PSw (ps_setLc hc hN hy hyl hsw hi ok hg ht he hs) fun D σ H ⟨η, ρ, S, rp, er, h⟩ =>
  lc_key _ _ _ ⟨η, ρ, S, rp, er, FinR.frz rp (FinR.mono (FinS.bind er h) fun v H1 ⟨η1, w, S1, f1, rp1, r1, h1⟩ => h1 η1 H1 _ (Fu.refl _ _) rp1 ((er.fu f1).set r1))⟩
end
end VI
set_option Elab.async false
set_option linter.all false
set_option maxRecDepth 100000
namespace VI
open PySem PySem.Spec PyProof.Rows L2

/-! methods of a live list -/
def liveB (w : W) (S : Store) : Bool := match w with
  | .loc l => match S[l]? with
    | some (.lst _) => true
    | _ => false
  | _ => false
theorem liveB_ok {K : PySem.W.Frag} {η : List Addr} {H : Hp} {S : Store} {w : W} {v : V} (e : liveB w S = true) (rp : Rp K η H S) (r : RepW K η H w v) : tyV K "list" v H := by
  unfold liveB at e
  split at e
  · split at e
    · rename_i l xs q
      cases r with
      | loc r =>
        obtain ⟨vs, h1, h2⟩ := rp.all _ _ _ r q
        exact .inl ⟨rfl, vs, SqL.of h1⟩
    · cases e
  · cases e
abbrev GM := W → List W → Store → O
def SimM (X : Cx) (ct : Nat → Option Addr) (g : GM) : V → List V → Hp → VK → Prop := fun x xs H Q => ∃ η S wx ws, Rp X.K η H S ∧ RepW X.K η H wx x ∧ RepWs X.K η H ws xs ∧ FinO (gx X ct) η H (g wx ws S) Q
def fMeth (g : GM) (o : FE) (a : FA) : FE := fun ρ S => (o ρ S).bind fun ov S1 => if liveB ov S1 = true then (a ρ S1).bind fun ws S2 => lift (g ov ws S2) else .bad
def fMeth0 (g : GM) (o : FE) : FE := fun ρ S => (o ρ S).bind fun ov S1 => if liveB ov S1 = true then lift (g ov [] S1) else .bad
theorem MtR.fit {X : Cx} {id : String} {r r' : V → List V → Hp → VK → Prop} (h : MtR X id r) (i : ∀ x xs H Q, r' x xs H Q → r x xs H Q) : MtR X id r' := fun pins s σ H x xs v us Q I rx ry q => h pins s σ H x xs v us Q I rx ry (i _ _ _ _ q)
section
variable {X : Cx} {ct : Nat → Option Addr} {E : EX} {o e : Expr} {es : List Expr} {name : Str} {apos cpos : Pos} {id : String} {g : GM} {fo : FE} {fa : FA}
theorem i_meth (slot : Slot "list" name id) (hty : typeOf (.builtin id) = pure (.type "method_descriptor")) (hm : MtR X id (SimM X ct g)) (ho : PE X o (tF (gx X ct) E fo)) (ha : PA X (e :: es) (tA (gx X ct) E fa))
    (hbase : attributeBase o name X.env (eval o X.env) = eval o X.env := by rfl)
    (hfew : ((backTo cpos (starEach (e :: es) X.env)).all (fun x => !x.1) && (backToKw cpos (keywordEach [] X.env)).all (fun x => x.1.isSome)
      && decide ((e :: es).length + ([] : List Keyword).length + (if ([] : List Keyword).isEmpty then 0 else 1) < 30)) = true := by rfl)
    (hline : (apos.endLine == cpos.line) = true := by rfl) (hs : starEach (e :: es) X.env = (false, eval e X.env) :: starEach es X.env := by rfl) (hplain : (backTo cpos (starEach es X.env)).any (·.1) = false := by rfl) :
    PE X (.Call (.Attribute o name apos) (e :: es) [] cpos) (tF (gx X ct) E (fMeth g fo fa)) := PEw (pe_bm PySem.F.plainAttrs_list slot hty hm ho ha hbase hfew hline hs hplain) fun σ H Q ⟨η, ρ, S, rp, er, h⟩ =>
  ⟨η, ρ, S, rp, er, FinR.mono (FinR.bind (rel := relW (gx X ct)) h) fun v H1 ⟨η1, w, S1, f1, rp1, r1, h1⟩ => by
    by_cases q : liveB w S1 = true
    · rw [if_pos q] at h1
      exact ⟨liveB_ok q rp1 r1, η1, ρ, S1, rp1, er.fu f1, FinR.mono (FinR.bind (rel := relL (gx X ct)) h1) fun vs H2 ⟨η2, ws, S2, f2, rp2, r2, h2⟩ => ⟨η2, S2, w, ws, rp2, RepW.fu f2 _ _ r1, r2, lift_ok h2⟩⟩
    · rw [if_neg q] at h1
      exact h1.elim⟩
theorem i_meth0 (slot : Slot "list" name id) (hty : typeOf (.builtin id) = pure (.type "method_descriptor")) (hm : MtR X id (SimM X ct g)) (ho : PE X o (tF (gx X ct) E fo))
    (hbase : attributeBase o name X.env (eval o X.env) = eval o X.env := by rfl) (hline : (apos.endLine == cpos.line) = true := by rfl) :
    PE X (.Call (.Attribute o name apos) [] [] cpos) (tF (gx X ct) E (fMeth0 g fo)) := PEw (pe_bm0 PySem.F.plainAttrs_list slot hty hm ho hbase hline) fun σ H Q ⟨η, ρ, S, rp, er, h⟩ =>
  ⟨η, ρ, S, rp, er, FinR.mono (FinR.bind (rel := relW (gx X ct)) h) fun v H1 ⟨η1, w, S1, f1, rp1, r1, h1⟩ => by
    by_cases q : liveB w S1 = true
    · rw [if_pos q] at h1
      exact ⟨liveB_ok q rp1 r1, η1, S1, w, [], rp1, r1, .nil, lift_ok h1⟩
    · rw [if_neg q] at h1
      exact h1.elim⟩
/-! the methods -/
def mAppend : GM := fun o ws S => match o, ws with
  | .loc l, [.d x] => match S[l]? with
    | some (.lst xs) => if xs.length < lim then some (.d .none, S.set l (.lst (xs ++ [x]))) else none
    | _ => none
  | _, _ => none
def mExtend : GM := fun o ws S => match o, ws with
  | .loc l, [u] => match S[l]?, asL u S with
    | some (.lst xs), some ys => if xs.length + ys.length ≤ lim then some (.d .none, S.set l (.lst (xs ++ ys))) else none
    | _, _ => none
  | _, _ => none
def mPop : GM := fun o ws S => match o, ws with
  | .loc l, [] => match S[l]? with
    | some (.lst xs) => match xs[xs.length - 1]? with
      | some x => some (.d x, S.set l (.lst xs.dropLast))
      | none => none
    | _ => none
  | _, _ => none
def mPopAt : GM := fun o ws S => match o, ws with
  | .loc l, [.d (.int i)] => match S[l]? with
    | some (.lst xs) => if -(2 ^ 63) ≤ i ∧ i < 2 ^ 63 then match seqIndex? i xs.length with
      | some k => match xs[k]? with
        | some x => some (.d x, S.set l (.lst (xs.eraseIdx k)))
        | none => none
      | none => none else none
    | _ => none
  | _, _ => none
def mInsert : GM := fun o ws S => match o, ws with
  | .loc l, [.d (.int i), .d x] => match S[l]? with
    | some (.lst xs) => if xs.length < lim ∧ 0 ≤ i ∧ i < 2 ^ 63 then some (.d .none, S.set l (.lst (xs.take i.toNat ++ [x] ++ xs.drop i.toNat))) else none
    | _ => none
  | _, _ => none
theorem live_at {K : PySem.W.Frag} {η : List Addr} {H : Hp} {S : Store} {l : Nat} {v : V} {xs : List PyData} (q : S[l]? = some (.lst xs)) (rp : Rp K η H S) (r : RepW K η H (.loc l) v) : ∃ a vs, v = .ref a ∧ η[l]? = some a ∧ H a = some (.lst vs) ∧ RepDs K η H xs vs := by
  cases r with
  | loc r =>
    obtain ⟨vs, h1, h2⟩ := rp.all _ _ _ r q
    exact ⟨_, vs, rfl, r, h1, h2⟩
theorem m_append : MtR X "list.append" (SimM X ct mAppend) := MtR.fit mt_append fun x xs H Q ⟨η, S, wx, ws, rp, rx, rr, h⟩ => by
  unfold mAppend at h
  split at h
  · rename_i l d
    split at h
    · rename_i ds q
      obtain ⟨a, vs, rfl, ha, h1, h2⟩ := live_at q rp rx
      obtain ⟨y, rfl, ry⟩ := repWs1 rr
      split at h
      · rename_i hl
        cases ry with
        | d ry => exact ⟨a, vs, y, rfl, rfl, h1, by rw [← h2.length, sizeLine_eq]; exact hl, write_list rp ha (h2.append (.cons ry .nil)) (.d .none) h⟩
      · exact h.elim
    · exact h.elim
  · exact h.elim
theorem m_extend : MtR X "list.extend" (SimM X ct mExtend) := MtR.fit mt_extend fun x xs H Q ⟨η, S, wx, ws, rp, rx, rr, h⟩ => by
  unfold mExtend at h
  split at h
  · rename_i l u
    split at h
    · rename_i ds es q e
      obtain ⟨a, vs, rfl, ha, h1, h2⟩ := live_at q rp rx
      obtain ⟨y, rfl, ry⟩ := repWs1 rr
      obtain ⟨b, us, rfl, h3, h4⟩ := asL_ok e rp ry
      split at h
      · rename_i hl
        exact ⟨a, b, vs, us, rfl, rfl, h1, h3, by rw [← h2.length, ← h4.length, sizeLine_eq]; exact hl, write_list rp ha (h2.append h4) (.d .none) h⟩
      · exact h.elim
    · exact h.elim
  · exact h.elim
theorem m_pop : MtR X "list.pop" (SimM X ct mPop) := MtR.fit mt_pop fun x xs H Q ⟨η, S, wx, ws, rp, rx, rr, h⟩ => by
  unfold mPop at h
  split at h
  · rename_i l
    split at h
    · rename_i ds q
      obtain ⟨a, vs, rfl, ha, h1, h2⟩ := live_at q rp rx
      cases rr
      split at h
      · rename_i d e
        obtain ⟨y, e1, ry⟩ := h2.get e
        rw [h2.length] at e1
        exact ⟨a, vs, y, rfl, rfl, h1, e1, write_list rp ha h2.dropLast (.d ry) h⟩
      · exact h.elim
    · exact h.elim
  · exact h.elim
theorem m_popAt : MtR X "list.pop" (SimM X ct mPopAt) := MtR.fit mt_popAt fun x xs H Q ⟨η, S, wx, ws, rp, rx, rr, h⟩ => by
  unfold mPopAt at h
  split at h
  · rename_i l i
    split at h
    · rename_i ds q
      obtain ⟨a, vs, rfl, ha, h1, h2⟩ := live_at q rp rx
      obtain ⟨y, rfl, ry⟩ := repWs1 rr
      obtain rfl := intW ry
      split at h
      · rename_i hi
        split at h
        · rename_i k ek
          split at h
          · rename_i d e
            obtain ⟨z, e1, rz⟩ := h2.get e
            exact ⟨a, vs, i, k, z, rfl, rfl, h1, hi.1, hi.2, by rw [← h2.length]; exact ek, e1, write_list rp ha (h2.eraseIdx k) (.d rz) h⟩
          · exact h.elim
        · exact h.elim
      · exact h.elim
    · exact h.elim
  · exact h.elim
theorem m_insert : MtR X "list.insert" (SimM X ct mInsert) := MtR.fit mt_insert fun x xs H Q ⟨η, S, wx, ws, rp, rx, rr, h⟩ => by
  unfold mInsert at h
  split at h
  · rename_i l i d
    split at h
    · rename_i ds q
      obtain ⟨a, vs, rfl, ha, h1, h2⟩ := live_at q rp rx
      obtain ⟨y, y2, rfl, ry, ry2⟩ := repWs2 rr
      obtain rfl := intW ry
      split at h
      · rename_i hi
        cases ry2 with
        | d ry2 => exact ⟨a, vs, i, y2, rfl, rfl, h1, by rw [← h2.length, sizeLine_eq]; exact hi.1, hi.2.1, hi.2.2, write_list rp ha (((h2.take _).append (.cons ry2 .nil)).append (h2.drop _)) (.d .none) h⟩
      · exact h.elim
    · exact h.elim
  · exact h.elim
theorem i_append {n : Nat} (ho : PE X o (tF (gx X ct) E fo)) (ha : PA X [e] (tA (gx X ct) E fa))
    (hbase : attributeBase o "append" X.env (eval o X.env) = eval o X.env := by rfl)
    (hfew : ((backTo cpos (starEach [e] X.env)).all (fun x => !x.1) && (backToKw cpos (keywordEach [] X.env)).all (fun x => x.1.isSome)
      && decide (([e] : List Expr).length + ([] : List Keyword).length + (if ([] : List Keyword).isEmpty then 0 else 1) < 30)) = true := by rfl)
    (hline : (apos.endLine == cpos.line) = true := by rfl) (hs : starEach [e] X.env = (false, eval e X.env) :: starEach [] X.env := by rfl) (hplain : (backTo cpos (starEach [] X.env)).any (·.1) = false := by rfl) :
    PE X (.Call (.Attribute o "append" apos) [e] [] cpos) (tF (gx X ct) E (fMeth mAppend fo fa)) := i_meth PySem.F.slot_list_append PySem.F.type_list_append m_append ho ha hbase hfew hline hs hplain
/-! all back to front -/
def gRev (w : W) (S : Store) : O := match asLW w S with
  | some ws => (datas ws).map fun ds => (.d (.list ds.reverse), S)
  | none => none
theorem i_rev {k : Nat} {p1 p2 p3 pos : Pos} (he : PE X e (tF (gx X ct) E fo)) : PE X (.Subscript e (.Slice none none (some (.UnaryOp .USub (.Constant (.int 1) k p1) p2)) p3) pos) (tF (gx X ct) E (f1 gRev fo)) :=
  PEw (pe_revL he) (get1 (r := fun x H1 Q => ∃ a xs, x = .ref a ∧ SqL X.K H1 a xs ∧ ∀ p, H1 p = none → Q (.ref p) (upd H1 p (.lst xs.reverse))) fun x H Q ⟨η, S, w, rp, r, h⟩ => by
    unfold gRev at h
    split at h
    · rename_i ws e
      obtain ⟨a, vs, rfl, h1, h2⟩ := asLW_ok e rp r
      cases q : datas ws with
      | none => rw [q] at h; exact h.elim
      | some ds =>
        rw [q] at h
        exact ⟨a, vs, rfl, h1, new_list rp (datas_ok q h2).reverse h⟩
    · exact h.elim)
end
end VI
set_option Elab.async false
set_option linter.all false
set_option maxRecDepth 100000
namespace VI
open PySem PySem.Spec PyProof.Rows L2

/-! a def by its body -/
/-- what a run of a body comes to -/
def toR : RF → R W
  | .next _ S => .ok (.d .none) S
  | .ret w S => .ok w S
  | _ => .bad
def startR (n : Nat) (ws : List W) : Rho := ws.map some ++ List.replicate (n - ws.length) none
def runB (n : Nat) (b : FS) (ws : List W) (S : Store) : R W := toR (b (startR n ws) S)
theorem start_rep {K : PySem.W.Frag} {η : List Addr} {H : Hp} {N : List Str} {ws : List W} {vs : List V} (r : RepWs K η H ws vs) : ERep K η H (startR N.length ws) (L2.start N vs) := by
  unfold startR L2.start
  refine ⟨by simp [r.length], fun i w h => ?_⟩
  by_cases hi : i < ws.length
  · rw [List.getElem?_append_left (by rw [List.length_map]; exact hi), List.getElem?_map] at h
    cases q : ws[i]? with
    | none => rw [q] at h; cases h
    | some u =>
      rw [q] at h
      have z : u = w := Option.some.inj (Option.some.inj h)
      subst z
      obtain ⟨v, e, rv⟩ := r.get q
      refine ⟨v, ?_, rv⟩
      rw [List.getElem?_append_left (by rw [List.length_map, ← r.length]; exact hi), List.getElem?_map, e]
      rfl
  · rw [List.getElem?_append_right (by rw [List.length_map]; omega), List.getElem?_replicate] at h
    split at h <;> cases h
abbrev NX : EX := fun _ => E0
section
variable {P : Program} {w : World} {K : PySem.W.Frag} {mg : Str → Option Value} {base : Heap} {ct : Nat → Option Addr}
/-- the context in which a body is read: none of what is raised leaves it -/
abbrev bodyX (P : Program) (w : World) (K : PySem.W.Frag) (mg : Str → Option Value) (base : Heap) (N : List Str) (qual : Str) (scope : Scope) (f : Addr) (cd : Value) (A : Around) (outer : List Env) (s : Shared) (H : Hp) (E : XK) : Cx :=
  (cxOf CX0 P w K mg base N qual scope f cd A outer s H E).nox
theorem fnG_of {k : Nat} {f : Addr} {name qual : Str} {pr : Arguments} {body : List Stmt} {sc : Scope} {dV kV doc pm cdv ctv oc : Value} {an od : Option Addr} {sl : Array (Option Value)} {N ps : List Str} {g : List W → Store → R W}
    (lk : K.lookup f = some ⟨oc, od, .func (PySem.W.fnOf name qual pr body sc dV kV doc pm an cdv ctv), sl⟩) (hcd : PySem.W.codeIn K cdv qual = true) (hS : FnScope N ps sc)
    (hb : ∀ (A : Around) (outer : List Env) (s : Shared) (H : Hp) (E : XK), Room k (A.deeper (envOfC qual sc s.heap.objs.size f cdv)) → A.guards = some [] → ∃ b : FS, (∀ ws S, ws.length = ps.length → g ws S = runB N.length b ws S) ∧
      PSs (bodyX P w K mg base N qual sc f cdv A outer s H E) body (tS ⟨K, ct⟩ NX b)) :
    FnG P w K mg base CX0 (k + 1) f (PySem.W.fnOf name qual pr body sc dV kV doc pm an cdv ctv) ps (spG ⟨K, ct⟩ ps.length g) where
  len := fun vs H Q E h => h.1
  run := by
    intro A outer s H args us vs Q E room gd env bnd rel ⟨hlen, η, S, ws, rp, rr, fin⟩
    have hin : K.In s.heap := env.mod.kin.keeps fun c o z => (env.bs c o z).1
    have nolim : s.heap.NoLimit := env.mod.nolimit.keeps fun c o z => (env.bs c o z).1
    have kinds : ∀ p ∈ ps.zip us, sc.names.lookup p.1 = some .local ∨ (sc.names.lookup p.1 = some .cell ∧ ((cellsFrom (s.heap.objs.size + 1) sc.names []).lookup p.1).isSome = true) := by
      rintro ⟨m, u⟩ hm
      rcases hS.par m (List.of_mem_zip hm).1 with z | z
      · exact Or.inl z
      · exact Or.inr ⟨z, PySem.W.cellsFrom_some _ _ _ (Or.inl z)⟩
    refine codeAny_call_function room.depth (hin _ _ lk) rfl hS.co hS.gen rfl (PySem.W.codeRec_of hin hcd) (bnd _ _ _ _ ?_)
    refine wpAny_newFunctionEnv_cells hS.kind kinds fun en hen t1 tx => ?_
    subst hen
    refine ⟨nolim.keeps tx.toInCall.keep, codeAny_func ?_⟩
    obtain ⟨b, eqb, hbody⟩ := hb A outer s H E (room.deeper _) gd
    have inv0 := inv_start (CX := CX0) (E := E) hS room.hd env hlen rel tx
    have wl : ws.length = ps.length := by rw [rr.length]; exact hlen
    rw [eqb ws S wl] at fin
    have pre : tS ⟨K, ct⟩ NX b { nx := fun _ H' => Q .non H', rt := Q } (L2.start N vs) H := by
      refine ⟨η, startR N.length ws, S, rp, start_rep rr, ?_⟩
      unfold runB at fin
      cases eb : b (startR N.length ws) S with
      | next ρ2 S2 => rw [eb] at fin; exact fun η2 H2 σ2 f2 rp2 er2 => fin η2 H2 .non f2 rp2 (.d .none)
      | ret u S2 => rw [eb] at fin; exact fin
      | brk ρ2 S2 => rw [eb] at fin; exact fin.elim
      | cnt ρ2 S2 => rw [eb] at fin; exact fin.elim
      | exc c fs ρ2 S2 => rw [eb] at fin; exact fin.elim
      | bad => rw [eb] at fin; exact fin.elim
    refine wpAny_mono ((PSs.nox hbody).run [] t1 (L2.start N vs) H _ inv0 pre) (fun fl t2 hf => ?_) fun e t2 hf => hf
    cases fl with
    | ret u =>
      obtain ⟨v, σ2, H2, J, rv, q⟩ := hf
      exact ⟨v, H2, J.os, J.bare, J.base, J.hok, rv, q⟩
    | next =>
      obtain ⟨σ2, H2, J, q⟩ := hf
      exact ⟨V.non, H2, J.os, J.bare, J.base, J.hok, rfl, q⟩
    | brk => exact False.elim (let ⟨_, _, _, q⟩ := hf; q)
    | cont => exact False.elim (let ⟨_, _, _, q⟩ := hf; q)
theorem FunD.okG {x qual : Str} {pr : Arguments} {body : List Stmt} {sc : Scope} {dvs : List V} {kws : List (Str × V)} {f : Addr} {fd : FuncData} {N ps : List Str} {k : Nat} {g : List W → Store → R W} (F : FunD K x qual pr body sc dvs kws f fd) (hS : FnScope N ps sc)
    (hb : ∀ (cdv : Value) (A : Around) (outer : List Env) (s : Shared) (H : Hp) (E : XK), Room k (A.deeper (envOfC qual sc s.heap.objs.size f cdv)) → A.guards = some [] → ∃ b : FS, (∀ ws S, ws.length = ps.length → g ws S = runB N.length b ws S) ∧
      PSs (bodyX P w K mg base N qual sc f cdv A outer s H E) body (tS ⟨K, ct⟩ NX b)) : FnG P w K mg base CX0 (k + 1) f fd ps (spG ⟨K, ct⟩ ps.length g) := by
  obtain ⟨oc, od, dV, kV, doc, pm, an, cdv, cv, sl, rfl, lk, hcd, _, _⟩ := F.ex
  exact fnG_of lk hcd hS fun A outer s H E r gd => hb cdv A outer s H E r gd
/-- no room: nothing is promised -/
theorem fnG_zero {k : Nat} {f : Addr} {fd : FuncData} {ps : List Str} {g : List W → Store → R W} (h : ∀ ws S, g ws S = .bad) : FnG P w K mg base CX0 k f fd ps (spG ⟨K, ct⟩ ps.length g) where
  len := fun vs H Q E h => h.1
  run := fun A outer s H args us vs Q E _ _ _ _ _ ⟨_, η, S, ws, rp, rr, fin⟩ => by
    rw [h] at fin
    exact fin.elim
end
end VI
set_option Elab.async false
set_option linter.all false
set_option maxRecDepth 100000
namespace VI
open PySem PySem.Spec PyProof.Rows L2

/-! the end: the law called by the row -/
/-- the row's question of the run -/
abbrev Asked (s1 : Shared) : Result → Shared → Prop := fun r t => r = .ok (.ret (.bool true)) ∧ OldK s1.heap t.heap ∧ t.os = s1.os ∧ AllBare t.gens
def scriptW (ns : List Int) : W := .fro (ns.map PyData.int)
theorem ints_rep {K : PySem.W.Frag} {η : List Addr} {H : Hp} : ∀ ns : List Int, RepDs K η H (ns.map PyData.int) (ns.map V.int)
  | [] => .nil
  | n :: ns => .cons (.int n) (ints_rep ns)
theorem script_rep {K : PySem.W.Frag} {H : Hp} {a : Addr} {ns : List Int} (hO : Only H) (hS : SqL K H a (ns.map V.int)) : RepW K [] H (scriptW ns) (.ref a) := by
  refine .fro ?_ (ints_rep ns)
  rcases hS with (z | ⟨o, z⟩) | z
  · rcases hO a with y | ⟨o, xs, y⟩
    · rw [y] at z; cases z
    · rw [y] at z; cases z
  · exact .inl ⟨o, z⟩
  · exact .inr z
section
variable {P : Program} {w : World} {K : PySem.W.Frag} {mg mb : Str → Option Value} {k : Nat} {fa a : Addr} {fd : FuncData} {x : Str} {ct : Nat → Option Addr} {g : List W → Store → R W} {s1 : Shared} {vs : List Value} {ns : List Int}
/-- from a heap in which nothing but the script is told of -/
theorem ask_from (KX : K.In s1.heap) (nsM : s1.heap.Ns mainGlobals mg) (nsB : s1.heap.Ns builtinsNs mb) (hbb : ∀ x : Str, x ≠ "__name__" → mb x = bootBuiltins x) (lim : s1.heap.NoLimit) (hg : s1.gens = #[])
    (ha : s1.heap.get? a = some { cls := .type "list", data := .seq vs.toArray }) (hr : Room k callerA)
    (F : ∀ base : Heap, K.In base → base.Ns mainGlobals mg → FnG P w K mg base CX0 k fa fd [x] (spG ⟨K, ct⟩ 1 g)) (bnd : ∀ (s : Shared) (u : Value), BindsTo s fd ⟨[u], []⟩ [(x, u)])
    (good : ∃ S', g [scriptW ns] [] = .ok (.d (.bool true)) S') (H : Hp) (hO : Only H) (hS : SqL K H a (ns.map V.int)) (hok : HOk P w H s1.heap) (only : ∀ c, H c ≠ none → c = a) (apart : H a ≠ none → K.lookup a = none) :
    codeAny (model P w) callerA (.call (.ref fa) ⟨[.ref a], []⟩) (Asked s1) s1 := by
  have seen : ∀ {c : Addr} {o : Obj}, s1.heap.get? c = some o → H c = none → (hidT s1.heap H).get? c = some o := fun z n => hidT_get z n
  have free : ∀ {c : Addr} {o : Obj}, s1.heap.get? c = some o → (∀ us n, o.data ≠ .seq us n) → H c = none := fun {c o} z nd => by
    cases q : H c with
    | none => rfl
    | some u =>
      obtain rfl : c = a := only c (by rw [q]; intro y; cases y)
      rw [ha] at z
      cases z
      exact (nd _ _ rfl).elim
  have spaces : ∀ {c : Addr} {m : Str → Option Value}, s1.heap.Ns c m → (hidT s1.heap H).Ns c m := fun {c m} ⟨o, es, ep, z, dz, rz⟩ => ⟨o, es, ep, seen z (free z fun us n y => by rw [dz] at y; cases y), dz, rz⟩
  have inK : K.In (hidT s1.heap H) := fun c o z => seen (KX c o z) (by
    cases q : H c with
    | none => rfl
    | some u =>
      obtain rfl : c = a := only c (by rw [q]; intro y; cases y)
      rw [apart (by rw [q]; intro y; cases y)] at z
      cases z)
  have md : L2.Mod K mg (hidT s1.heap H) := ⟨inK, spaces nsM, ⟨mb, spaces nsB, hbb⟩, let ⟨mc, z1, z2⟩ := lim; ⟨mc, spaces z1, z2⟩⟩
  have env : Env0 P w K mg (hidT s1.heap H) callerA [] s1 H := ⟨rfl, md, fun c o z => of_hidT z, Nat.le_of_eq (hidT_size _ _), trivial, fun c hc => (by cases hc), hok, .of_eq hg⟩
  obtain ⟨S', eg⟩ := good
  have rp : Rp K [] H [] := ⟨rfl, List.nodup_nil, fun l c o z => by simp at z⟩
  have pre : spG ⟨K, ct⟩ 1 g [.ref a] H (fun v _ => v = .bl true) E0 := ⟨rfl, [], [], [scriptW ns], rp, .cons (script_rep hO hS) .nil, by
    rw [eg]
    intro η2 H2 v f2 rp2 r2
    cases r2 with
    | d r2 => cases r2; rfl⟩
  refine codeAny_mono ((F _ inK (spaces nsM)).run callerA [] s1 H ⟨[.ref a], []⟩ [.ref a] [.ref a] _ _ hr rfl env (bnd s1 (.ref a)) (.cons rfl .nil) pre) fun r t h => ?_
  cases r with
  | error e => exact False.elim h
  | ok fl =>
    cases fl with
    | next => exact False.elim h
    | brk => exact False.elim h
    | cont => exact False.elim h
    | ret u =>
      obtain ⟨v, H2, os, bare, un, hok2, rel, q⟩ := h
      have qv : v = .bl true := q
      subst qv
      obtain rfl : u = Value.bool true := rel
      refine ⟨rfl, OldK.of_keep fun c o z => ?_, os, bare⟩
      cases q : H c with
      | none => exact un.keep c o z q (by intro y; cases y) (by simp)
      | some u =>
        rcases hO c with y | ⟨ob, xs, y⟩
        · rw [q] at y; cases y
        · obtain ⟨e1, _⟩ := hok c _ y
          obtain ⟨e2, _⟩ := hok2 c _ (un.frzs c ob _ y)
          rw [z] at e1
          cases e1
          exact e2
theorem ask (KX : K.In s1.heap) (nsM : s1.heap.Ns mainGlobals mg) (nsB : s1.heap.Ns builtinsNs mb) (hbb : ∀ x : Str, x ≠ "__name__" → mb x = bootBuiltins x) (lim : s1.heap.NoLimit) (hg : s1.gens = #[])
    (ha : s1.heap.get? a = some { cls := .type "list", data := .seq vs.toArray }) (hi : IntsAre vs ns) (hl : ns.length ≤ sizeLine) (hr : Room k callerA)
    (F : ∀ base : Heap, K.In base → base.Ns mainGlobals mg → FnG P w K mg base CX0 k fa fd [x] (spG ⟨K, ct⟩ 1 g)) (bnd : ∀ (s : Shared) (u : Value), BindsTo s fd ⟨[u], []⟩ [(x, u)])
    (good : ∃ S', g [scriptW ns] [] = .ok (.d (.bool true)) S') : codeAny (model P w) callerA (.call (.ref fa) ⟨[.ref a], []⟩) (Asked s1) s1 := by
  have rv := vals_ints hi
  have run := fun H => ask_from KX nsM nsB hbb lim hg ha hr F bnd good H
  cases hk : K.lookup a with
  | some o =>
    have z := KX a o hk
    rw [ha] at z
    cases z
    refine run (fun _ => none) (fun _ => Or.inl rfl) (Or.inr ⟨_, vs.toArray, _, hk, rfl, rfl, rfl, ?_, ?_⟩) (fun c u y => nomatch y) (fun c y => absurd rfl y) fun y => absurd rfl y
    · rw [List.size_toArray, hi.length]; exact hl
    · simpa using rv
  | none =>
    have at_a : ∀ c, (fun c => if c = a then some (HO.frz { cls := .type "list", data := .seq vs.toArray } (.lst (ns.map V.int))) else none) c ≠ none → c = a := fun c y => by
      by_cases h : c = a
      · exact h
      · exact absurd (if_neg h) y
    refine run (fun c => if c = a then some (.frz { cls := .type "list", data := .seq vs.toArray } (.lst (ns.map V.int))) else none) (fun c => ?_) (Or.inl (Or.inr ⟨_, if_pos rfl⟩)) (fun c u y => ?_) at_a fun _ => hk
    · by_cases h : c = a
      · exact Or.inr ⟨_, _, if_pos h⟩
      · exact Or.inl (if_neg h)
    · obtain rfl : c = a := at_a c (by rw [y]; intro n; cases n)
      have y2 := (if_pos rfl).symm.trans y
      cases y2
      exact ⟨ha, by rw [List.length_map]; exact hl, vs, _, rv, ha⟩
/-- what the row leaves, from the law's function -/
theorem walk_G {l : PySem.W.OpenLaw} {n : Nat} {q : Program} {loose : List Str} {XP : (Str → Option Value) → Heap → Prop} {YP : World → Heap → Prop} {d : DefRec}
    (hn : l.most = some n) (hn2 : n ≤ sizeLine) (hdf : d.params.defaults = []) (hr : Room k callerA)
    (F : ∀ (w : World) (mg : Str → Option Value) (fa : Addr) (h : Heap), YP w h → h.Ns mainGlobals mg → mg d.name = some (.ref fa) →
      ∃ (K : PySem.W.Frag) (fd : FuncData), K.In h ∧ (∀ (s : Shared) (u : Value), BindsTo s fd ⟨[u], []⟩ [(x, u)]) ∧
        ∀ base : Heap, K.In base → base.Ns mainGlobals mg → FnG l.prog w K mg base CX0 k fa fd [x] (spG ⟨K, ct⟩ 1 g))
    (good : ∀ ns : List Int, ns.length ≤ n → (∀ z ∈ ns, Builtin.Int.intBits z ≤ 1048576) → ∃ S', g [scriptW ns] [] = .ok (.d (.bool true)) S') :
    PySem.W.WalkO q loose XP YP l.row.toRowW d [] (fun f vs => PySem.call f vs) :=
  Att.attach_callB hn hdf fun w s₀ s1 mg mb fa o pm cd doc a vs ns G Y ho hd hcd hmg hobj hints hlen hbits hg => by
    obtain ⟨K, fd, KX, hb, hF⟩ := F w mg fa _ Y G.T.g hmg
    exact ask KX G.T.g G.T.b G.T.builtins G.T.nolimit hg hobj hints (Nat.le_trans hlen hn2) hr hF hb (good ns hlen hbits)
end
end VI
set_option Elab.async false
set_option linter.all false
set_option maxRecDepth 100000
namespace VI
open PySem PySem.Spec PyProof.Rows L2

/-! minus -/
def gNeg (w : W) (S : Store) : O := match w with
  | .d (.int i) => some (.d (.int (-i)), S)
  | _ => none
section
variable {X : Cx} {ct : Nat → Option Addr} {E : EX}
theorem i_neg {e : Expr} {pos : Pos} {f : FE} (he : PE X e (tF (gx X ct) E f)) : PE X (.UnaryOp .USub e pos) (tF (gx X ct) E (f1 gNeg f)) :=
  PEw (pe_un un_neg he) (get1 (r := rU fun i => .int (-i)) fun x H Q ⟨η, S, w, rp, r, h⟩ => by
    unfold gNeg at h
    split at h
    · obtain rfl := intW r
      exact ⟨_, rfl, same_val rp (.d (.int _)) h⟩
    · exact h.elim)
/-! o[i] op= e, a live list, i not below 0 -/
theorem get_live : PGet X fun o i H Q => ∃ p xs k v, o = .ref p ∧ i = .int k ∧ SqL X.K H p xs ∧ 0 ≤ k ∧ k < 2 ^ 63 ∧ xs[k.toNat]? = some v ∧ Q v H := by
  intro pins s σ H o i ov iv Q I ro ri ⟨p, xs, k, v, ho, hi, hq, h0, h1, hv, q⟩
  subst ho
  subst hi
  cases ro
  obtain ⟨t, rfl⟩ := ri
  obtain ⟨its, r, pl, hz⟩ := I.list hq
  obtain ⟨u, hu, ru⟩ := r.get hv
  exact wpAny_getItem_list pl.isList h0 h1 (by simpa using hu) ⟨v, H, I, ru, q⟩
def gAt (o i : W) (S : Store) : Option PyData := match o, i with
  | .loc l, .d (.int k) => match S[l]? with
    | some (.lst xs) => if 0 ≤ k ∧ k < 2 ^ 63 then xs[k.toNat]? else none
    | _ => none
  | _, _ => none
def fAugAt (fo fi : FE) (g : W → W → Store → O) (fe : FE) : FS := fun ρ S => toS ρ (fo ρ S) fun ov S1 => toS ρ (fi ρ S1) fun iw S2 => match gAt ov iw S2 with
  | some old => toS ρ (fe ρ S2) fun ev S3 => match g (.d old) ev S3 with
    | some (z, S4) => match gSet ov iw z S4 with
      | some S5 => .next ρ S5
      | none => .bad
    | none => .bad
  | none => .bad
theorem gAt_ok {K : PySem.W.Frag} {η : List Addr} {H : Hp} {S : Store} {wo wi : W} {o i : V} {d : PyData} (e : gAt wo wi S = some d) (rp : Rp K η H S) (ro : RepW K η H wo o) (ri : RepW K η H wi i) :
    ∃ p xs k v, o = .ref p ∧ i = .int k ∧ SqL K H p xs ∧ 0 ≤ k ∧ k < 2 ^ 63 ∧ xs[k.toNat]? = some v ∧ RepD K η H d v := by
  unfold gAt at e
  split at e
  · rename_i l k
    obtain rfl := intW ri
    split at e
    · rename_i ds q
      obtain ⟨a, vs, rfl, ha, h1, h2⟩ := live_at q rp ro
      split at e
      · rename_i hk
        obtain ⟨v, ev, rv⟩ := h2.get e
        exact ⟨a, vs, k, v, rfl, rfl, SqL.of h1, hk.1, hk.2, ev, rv⟩
      · cases e
    · cases e
  · cases e
theorem s_augAt {o i e : Expr} {op : Operator} {tpos pos : Pos} {fo fi fe : FE} {g : W → W → Store → O} (hop : OpR X (inplaceOp op) (Sim2 X ct g)) (ho : PE X o (tF (gx X ct) E fo)) (hi : PE X i (tF (gx X ct) E fi)) (he : PE X e (tF (gx X ct) E fe))
    (ha : ∀ ov iv new, augStore i ov iv new = (do holding [new, ov, iv] (setItem ov iv new); release [new, ov, iv] []; pure .next) := by intros; rfl) : PS X (.AugAssign (.Subscript o i tpos) op e pos) (tS (gx X ct) E (fAugAt fo fi g fe)) :=
  PSw (ps_augS ho hi get_live he (fun pins s σ H a b v u Q I ra rb q => hop pins s σ H a b v u Q I ra rb q) set_list ha) fun D σ H ⟨η, ρ, S, rp, er, h⟩ =>
  ⟨η, ρ, S, rp, er, FinR.mono (FinS.bind er h) fun v1 H1 ⟨η1, w1, S1, f1, rp1, r1, h1⟩ =>
    ⟨η1, ρ, S1, rp1, er.fu f1, FinR.mono (FinS.bind (er.fu f1) h1) fun v2 H2 ⟨η2, w2, S2, f2, rp2, r2, h2⟩ => by
      split at h2
      · rename_i old eo
        obtain ⟨p, xs, k, v, ev1, ev2, hq, k0, k1, hv, rv⟩ := gAt_ok eo rp2 (RepW.fu f2 _ _ r1) r2
        refine ⟨p, xs, k, v, ev1, ev2, hq, k0, k1, hv, η2, ρ, S2, rp2, (er.fu f1).fu f2, FinR.mono (FinS.bind ((er.fu f1).fu f2) h2) fun v3 H3 ⟨η3, w3, S3, f3, rp3, r3, h3⟩ => ?_⟩
        refine ⟨η3, S3, .d old, w3, rp3, .d (RepD.fu f3 _ _ rv), r3, ?_⟩
        cases eg : g (.d old) w3 S3 with
        | none => rw [eg] at h3; exact h3.elim
        | some zz =>
          obtain ⟨z, S4⟩ := zz
          rw [eg] at h3
          dsimp only at h3
          intro η4 H4 v4 f4 rp4 r4
          cases es : gSet w1 w2 z S4 with
          | none => rw [es] at h3; exact h3.elim
          | some S5 =>
            rw [es] at h3
            exact set_key es rp4 (RepW.fu ((f2.trans f3).trans f4) _ _ r1) (RepW.fu (f3.trans f4) _ _ r2) r4 fun η5 H5 f5 rp5 => h3 η5 H5 σ (f4.trans f5) rp5 (((((er.fu f1).fu f2).fu f3).fu f4).fu f5)
      · exact h2.elim⟩⟩
end
/-! all back to front, a tuple -/
theorem places_down (n : Nat) : Builtin.Slice.slicePlaces ((n : Int) - 1) (-1) (-1) = n := by
  unfold Builtin.Slice.slicePlaces
  rw [if_neg (by omega)]
  by_cases h : (n : Int) - 1 > -1
  · rw [if_pos h]
    have e : (-(-1 : Int)) = 1 := rfl
    rw [e, Int.ediv_one]
    omega
  · rw [if_neg h]
    omega
theorem pick_down (xs : Array Value) : ((List.range xs.size).filterMap fun (m : Nat) => xs[(((xs.size : Int) - 1) + (m : Int) * -1).toNat]?) = xs.toList.reverse := by
  have key : ∀ k, k ≤ xs.size → ((List.range k).filterMap fun (m : Nat) => xs[(((xs.size : Int) - 1) + (m : Int) * -1).toNat]?) = xs.toList.reverse.take k := fun k => by
    induction k with
    | zero => intro _; rfl
    | succ k ih =>
      intro hk
      have e1 : (((xs.size : Int) - 1) + (k : Int) * -1).toNat = xs.size - 1 - k := by omega
      have lt : xs.size - 1 - k < xs.size := by omega
      rw [List.range_succ, List.filterMap_append, ih (by omega), List.take_add_one]
      congr 1
      rw [List.getElem?_reverse (by rw [Array.length_toList]; omega), Array.length_toList]
      simp only [List.filterMap_cons, List.filterMap_nil]
      rw [e1, Array.getElem?_toList, Array.getElem?_eq_getElem lt]
      rfl
  rw [key xs.size (Nat.le_refl _), List.take_of_length_le (by rw [List.length_reverse, Array.length_toList]; exact Nat.le_refl _)]
section
variable {P : Program} {w : World} {A : Around} {E : Value → Shared → Prop} {s : Shared}
theorem applied_down {sl : Addr} {vs : Value} {n : Nat} {Q : Int × Int × Nat → Shared → Prop} (hs : s.heap.IsSliceOf sl .none .none vs) (ps : IsPart vs (some (-1))) (h : Q ((n : Int) - 1, -1, n) s) :
    wpAny (model P w) A (Builtin.Slice.sliceApplied (.ref sl) (pure (n : Int))) Q E s := by
  obtain ⟨os, g, c, d⟩ := id hs
  unfold Builtin.Slice.sliceApplied Builtin.Slice.sliceFields
  refine wpAny_bind (wpAny_bind (wpAny_field g d (x := .none) rfl (wpAny_bind (wpAny_field g d (x := .none) rfl (wpAny_bind (wpAny_field g d (x := vs) rfl (wpAny_pure ?_)))))))
  refine wpAny_bind (HT.slicePart_ ps ?_)
  show wpAny _ _ (if ((-1 : Int) == 0) = true then _ else _) _ _ s
  rw [if_neg (by decide)]
  refine wpAny_bind (PyProof.Rows.slicePart_none (wpAny_bind (PyProof.Rows.slicePart_none (wpAny_bind (wpAny_pure ?_)))))
  have e : Builtin.Slice.sliceAdjust none none (-1) (n : Int) = ((n : Int) - 1, -1) := by
    unfold Builtin.Slice.sliceAdjust
    rfl
  show wpAny _ _ (match Builtin.Slice.sliceAdjust none none (-1) (n : Int) with | (lo, hi) => pure (lo, (-1 : Int), Builtin.Slice.slicePlaces lo hi (-1))) _ _ s
  rw [e]
  show wpAny _ _ (pure ((n : Int) - 1, (-1 : Int), Builtin.Slice.slicePlaces ((n : Int) - 1) (-1) (-1))) _ _ s
  rw [places_down]
  exact wpAny_pure h
theorem item_tupDown {t sl : Addr} {items : Array Value} {vs : Value} {Q : Value → Shared → Prop} (ht : IsTup s.heap t items) (hs : s.heap.IsSliceOf sl .none .none vs) (ps : IsPart vs (some (-1)))
    (h : Q (.ref s.heap.objs.size) { s with heap := s.heap.push { cls := .type "tuple", data := .seq items.toList.reverse.toArray } }) (hz : items.size ≤ sizeLine) : wpAny (model P w) A (getItem (.ref t) (.ref sl)) Q E s := by
  have fits : sizeOk (.seq items.toList.reverse.toArray) := by
    show items.toList.reverse.toArray.size ≤ sizeLine
    rw [List.size_toArray, List.length_reverse, Array.length_toList]
    exact hz
  have isS : s.TypeIs (.ref sl) "slice" := let ⟨os, g, c, _⟩ := id hs; ⟨os, g, c⟩
  unfold getItem
  try with_reducible refine wpAny_holding ?_
  first | refine wpAny_bind (wpAny_pure ?_) | skip
  refine wpAny_bind (wpAny_sequenceKey ht.typeIs (by decide) ?_)
  refine wpAny_bind (wpAny_callSpecial?_slot (name := Str.ofString "__getitem__") ht.typeIs PyProof.Rows.slot_tuple_getitem (wpAny_call_entry PyProof.Rows.slot_tuple_getitem ht.typeIs PyProof.Rows.entry_tuple_getitem ?_ (PyProof.Rows.args_tuple_getitem _ _)))
  show wpAny _ _ (Builtin.Tuple.tupleItemsOf (.ref t) >>= _) _ _ s
  refine wpAny_bind (PyProof.Rows.tupleItemsOf_ ht (wpAny_bind (wpAny_typeOf isS ?_)))
  rw [if_pos (by decide)]
  refine wpAny_bind (applied_down hs ps ?_)
  have no : ¬ ((((items.size : Int) - 1) == 0 && (-1 : Int) == 1 && items.size == items.size) = true) := by
    intro q
    rw [Bool.and_eq_true, Bool.and_eq_true] at q
    exact absurd q.1.2 (by decide)
  show wpAny _ _ (if ((((items.size : Int) - 1) == 0 && (-1 : Int) == 1 && items.size == items.size) = true) then _ else _) _ _ s
  rw [if_neg no, pick_down]
  first
    | exact wpAny_bind (m := Builtin.Tuple.tupleExact _) (wpAny_newObj_type (wpAny_pure ⟨_, rfl, wpAny_pure h⟩) fits)
    | exact wpAny_bind (m := Builtin.Tuple.tupleExact _) (wpAny_newObj_type (wpAny_bind (wpAny_pure (wpAny_pure ⟨_, rfl, wpAny_pure h⟩))) fits)
    | exact wpAny_bind (wpAny_bind (m := Builtin.Tuple.tupleExact _) (wpAny_newObj_type (wpAny_pure (wpAny_pure ⟨_, rfl, wpAny_pure h⟩)) fits))
    | exact wpAny_bind (wpAny_bind (m := Builtin.Tuple.tupleExact _) (wpAny_newObj_type (wpAny_pure ⟨_, rfl, wpAny_pure h⟩) fits))
end
section
variable {X : Cx} {ct : Nat → Option Addr} {E : EX}
def tRevB (K : PySem.W.Frag) (te : TE) : TE := fun σ H Q => te σ H fun x H1 => (∃ a xs, x = .ref a ∧ SqL K H1 a xs ∧ ∀ p, H1 p = none → Q (.ref p) (upd H1 p (.lst xs.reverse))) ∨ ∃ a xs, x = .ref a ∧ SqT K H1 a xs ∧ ∀ p, H1 p = none → Q (.ref p) (upd H1 p (.tup xs.reverse))
theorem pe_revB {e : Expr} {te : TE} {k : Nat} {p1 p2 p3 pos : Pos} (he : PE X e te) : PE X (.Subscript e (.Slice none none (some (.UnaryOp .USub (.Constant (.int 1) k p1) p2)) p3) pos) (tRevB X.K te) := ⟨fun pins s σ H Q I h => by
  refine Subscript_ (thn (he.run pins s σ H _ I h) fun v s1 ⟨x, H1, I1, r1, q1⟩ => ?_)
  have step : PO X (some (.UnaryOp .USub (.Constant (.int 1) k p1) p2)) (tPart (tUn (rU fun i => .int (-i)) (tC (.int 1)))) := po_some (pe_un un_neg pe_int)
  refine wpAny_Slice (thn (po_none.run pins s1 σ H1 (fun o H2 => o = none ∧ H2 = H1) I1 ⟨rfl, rfl⟩) fun vl s2 ⟨o2, H2, I2, pl, el, e2⟩ => ?_)
  subst el e2
  refine thn (po_none.run pins s2 σ H2 (fun o H3 => o = none ∧ H3 = H2) I2 ⟨rfl, rfl⟩) fun vu s3 ⟨o3, H3, I3, pu, eu, e3⟩ => ?_
  subst eu e3
  refine thn (step.run pins s3 σ H3 (fun o H4 => o = some (-1) ∧ H4 = H3) I3 ⟨1, rfl, -1, rfl, rfl, rfl⟩) fun vs s4 ⟨o4, H4, I4, ps, eo, e4⟩ => ?_
  subst eo e4
  have I5 : Inv X pins σ H4 { s4 with heap := s4.heap.push { cls := .type "slice", data := .fields #[vl, vu, vs] } } := I4.kept (t' := s4.toks) fun b ob z => Heap.get?_push_of_some _ z
  rcases q1 with ⟨a, xs, ex, hx, q⟩ | ⟨a, xs, ex, hx, q⟩
  · subst ex
    cases r1
    obtain ⟨its, r, ht, hz⟩ := I5.list hx
    have hl := r.length
    show wpAny (model X.prog X.w) X.A (subscriptTail e (.Slice none none (some (.UnaryOp .USub (.Constant (.int 1) k p1) p2)) p3) (.ref a) (.ref s4.heap.objs.size)) (EP X pins σ Q) X.xe { s4 with heap := s4.heap.push { cls := .type "slice", data := .fields #[vl, vu, vs] } }
    refine tail_any (ops := [.ref a, .ref s4.heap.objs.size]) ht.isList.typeIs PySem.slot_list_getitem.lookup ?_ (by with_unfolding_all rfl)
    refine wpAny_getItem_list_slice ht.isList (Heap.IsSliceOf.new _ vl vu vs) pl pu ps (by decide) ?_ (by rw [List.size_toArray]; omega)
    rw [PySem.W.krv_pick]
    exact ⟨.ref _, _, I5.laid (t' := s4.toks) (o := .lst xs.reverse) (fun b ob z => Heap.get?_push_of_some _ z) (Nat.le_refl _) ⟨by rw [List.length_reverse]; exact hz, _, 0, r.reverse, Heap.get?_push_size _ rfl⟩, rfl, q _ (I5.hok.fresh (Nat.le_refl _))⟩
  · subst ex
    cases r1
    cases pl
    cases pu
    obtain ⟨its, r, ht, hz⟩ := I5.tuple hx
    have hl := r.length
    show wpAny (model X.prog X.w) X.A (subscriptTail e (.Slice none none (some (.UnaryOp .USub (.Constant (.int 1) k p1) p2)) p3) (.ref a) (.ref s4.heap.objs.size)) (EP X pins σ Q) X.xe { s4 with heap := s4.heap.push { cls := .type "slice", data := .fields #[.none, .none, vs] } }
    refine tail_any (ops := [.ref a, .ref s4.heap.objs.size]) ht.typeIs PyProof.Rows.slot_tuple_getitem.lookup ?_ (by with_unfolding_all rfl)
    refine item_tupDown ht (Heap.IsSliceOf.new _ .none .none vs) ps ?_ (by rw [List.size_toArray]; omega)
    exact ⟨.ref _, _, I5.laid (t' := s4.toks) (o := .tup xs.reverse) (fun b ob z => Heap.get?_push_of_some _ z) (Nat.le_refl _) ⟨by rw [List.length_reverse]; exact hz, _, r.reverse, IsTup.new _ _⟩, rfl, q _ (I5.hok.fresh (Nat.le_refl _))⟩⟩
def gRevB (w : W) (S : Store) : O := match asTW w with
  | some ws => some (mkT ws.reverse, S)
  | none => gRev w S
theorem RepWs.reverse {K : PySem.W.Frag} {η : List Addr} {H : Hp} : ∀ {ws : List W} {vs : List V}, RepWs K η H ws vs → RepWs K η H ws.reverse vs.reverse
  | [], _, h => by cases h; exact .nil
  | x :: xs, _, h => by
    cases h with
    | cons h1 h2 =>
      rw [List.reverse_cons, List.reverse_cons]
      exact (RepWs.reverse h2).append (.cons h1 .nil)
theorem i_revB {e : Expr} {f : FE} {k : Nat} {p1 p2 p3 pos : Pos} (he : PE X e (tF (gx X ct) E f)) : PE X (.Subscript e (.Slice none none (some (.UnaryOp .USub (.Constant (.int 1) k p1) p2)) p3) pos) (tF (gx X ct) E (f1 gRevB f)) :=
  PEw (pe_revB he) (get1 (r := fun x H1 Q => (∃ a xs, x = .ref a ∧ SqL X.K H1 a xs ∧ ∀ p, H1 p = none → Q (.ref p) (upd H1 p (.lst xs.reverse))) ∨ ∃ a xs, x = .ref a ∧ SqT X.K H1 a xs ∧ ∀ p, H1 p = none → Q (.ref p) (upd H1 p (.tup xs.reverse))) fun x H Q ⟨η, S, w, rp, r, h⟩ => by
    unfold gRevB at h
    split at h
    · rename_i ws e
      obtain ⟨a, vs, rfl, h1, h2⟩ := asTW_ok e r
      exact .inr ⟨a, vs, rfl, h1, new_mkT rp h2.reverse h⟩
    · unfold gRev at h
      split at h
      · rename_i ws e
        obtain ⟨a, vs, rfl, h1, h2⟩ := asLW_ok e rp r
        cases q : datas ws with
        | none => rw [q] at h; exact h.elim
        | some ds =>
          rw [q] at h
          exact .inl ⟨a, vs, rfl, h1, new_list rp (datas_ok q h2).reverse h⟩
      · exact h.elim)
end
end VI
set_option Elab.async false
set_option linter.all false
set_option maxRecDepth 100000
namespace VI
open PySem PySem.Spec PyProof.Rows L2

/-! calls of the program's own defs -/
/-- a def of the module: the name x gives it, it does g -/
def Callee (P : Program) (w : World) (K : PySem.W.Frag) (mg : Str → Option Value) (base : Heap) (ct : Nat → Option Addr) (k : Nat) (x : Str) (ps : List Str) (g : List W → Store → R W) : Prop :=
  ∃ (f : Addr) (fd : FuncData), FnG P w K mg base CX0 k f fd ps (spG ⟨K, ct⟩ ps.length g) ∧ mg x = some (.ref f) ∧ PySem.W.keepIn K (.ref f) = true ∧ Binds K fd ps []
section
variable {X : Cx} {ct : Nat → Option Addr} {k n : Nat} {x : Str} {ps : List Str} {g : List W → Store → R W} {p pos : Pos} {e : Expr} {es : List Expr} {fa : FA}
theorem cCall (C : Callee X.prog X.w X.K X.mg X.base ct k x ps g) (hr : Room k X.A) (hgd : X.A.guards = some []) (ha : PA X (e :: es) (tA (gx X ct) NX fa)) (hn : ps.length = n := by rfl) (hg : Gl X x := by rfl) (hdb : (x == ("__debug__" : Str)) = false := by decide)
    (he : starEach (e :: es) X.env = (false, eval e X.env) :: starEach es X.env := by rfl) (hpl : (backTo pos (starEach es X.env)).any (·.1) = false := by rfl) : PE X (.Call (.Name x p) (e :: es) [] pos) (tF (gx X ct) NX (fCall n g fa)) := by
  obtain ⟨f, fd, F, m, kp, b⟩ := C
  subst hn
  exact i_call F hr hgd hg m kp b pass0 ha hdb he hpl
theorem cCallL (C : Callee X.prog X.w X.K X.mg X.base ct k x ps g) (hr : Room k X.A) (hgd : X.A.guards = some []) (ha : PA X (e :: es) (tA (gx X ct) NX fa)) (hn : ps.length = n := by rfl) (hg : Gl X x := by rfl) (hdb : (x == ("__debug__" : Str)) = false := by decide)
    (he : starEach (e :: es) X.env = (false, eval e X.env) :: starEach es X.env := by rfl) (hpl : (backTo pos (starEach es X.env)).any (·.1) = false := by rfl) : PE X (.Call (.Name x p) (e :: es) [] pos) (tF (gx X ct) NX (fCallL n g fa)) := by
  obtain ⟨f, fd, F, m, kp, b⟩ := C
  subst hn
  exact i_callL F hr hgd hg m kp b pass0 ha hdb he hpl
end
theorem hu64 {k : Nat} {A : Around} (r : Room k A) : A.units + 64 < cLine := by have := r.un; omega
theorem hu65 {k : Nat} {A : Around} (r : Room k A) : A.units + 65 < cLine := by have := r.un; omega
/-! a comprehension's names -/
def blkB (N : List Str) (sc scope : Scope) (own : List (Str × Nat)) : Bool :=
  decide (scope.kind = .function) && scope.names.all (fun y => decide (scope.names.lookup y.1 = some y.2)) && own.all (fun p => decide (N[p.2]? = some p.1)) &&
    scope.names.all (fun y => !decide (y.2 = .free) || (decide (sc.names.lookup y.1 = some .cell) || decide (sc.names.lookup y.1 = some .free))) &&
    scope.names.all (fun y => !(decide (y.2 = .local) || decide (y.2 = .cell)) || (decide (y.1 ∈ own.map (·.1)) || decide (y.1 ∉ N)))
theorem blk_of {N : List Str} {sc scope : Scope} {own : List (Str × Nat)} (h : blkB N sc scope own = true) : BlkOk N sc scope own := by
  unfold blkB at h
  simp only [Bool.and_eq_true, List.all_eq_true, decide_eq_true_eq, Bool.or_eq_true, Bool.not_eq_true', decide_eq_false_iff_not] at h
  obtain ⟨⟨⟨⟨h1, h2⟩, h3⟩, h4⟩, h5⟩ := h
  refine ⟨h1, fun y m => h2 y m, fun p m => h3 p m, fun y m e => ?_, fun y m e => ?_⟩
  · rcases h4 y m with z | z
    · exact absurd e z
    · exact z
  · rcases h5 y m with z | z
    · rw [Bool.or_eq_false_iff, decide_eq_false_iff_not, decide_eq_false_iff_not] at z
      rcases e with e | e
      · exact absurd e z.1
      · exact absurd e z.2
    · exact z

/-! a, b = e1, e2 -/
def fPar (i j : Nat) (a : FA) : FS := fun ρ S => toS ρ (a ρ S) fun ws S1 => match ws with
  | [u, v] => .next ((ρ.set i (some u)).set j (some v)) S1
  | _ => .bad
theorem s_par {X : Cx} {ct : Nat → Option Addr} {E : EX} (i j : Nat) {x y : Str} {a b : Expr} {fa : FA} {px py pt pos : Pos} {kt k2 : Nat} {pt2 : Pos} (hc : X.calm = true) (hN : X.N.Nodup) (hij : i ≠ j) (ha : PA X [a, b] (tA (gx X ct) E fa))
    (hi : X.N[i]? = some x := by rfl) (hj : X.N[j]? = some y := by rfl) (hx : X.env.scope.names.lookup x = some .local := by rfl) (hy : X.env.scope.names.lookup y = some .local := by rfl)
    (hw : swappedStores [.Tuple [.Name x px, .Name y py] kt pt] (.Tuple [a, b] k2 pt2) X.env = pure (some [x, y]) := by rfl)
    (hs : swapsWithSole [.Tuple [.Name x px, .Name y py] kt pt] (.Tuple [a, b] k2 pt2) pos.line X.env = pure false := by rfl) :
    PS X (.Assign [.Tuple [.Name x px, .Name y py] kt pt] (.Tuple [a, b] k2 pt2) pos) (tS (gx X ct) E (fPar i j fa)) := PSw (ps_par hc hN hi hj hij hx hy ha hw hs) fun D σ H ⟨η, ρ, S, rp, er, h⟩ =>
  ⟨η, ρ, S, rp, er, FinR.mono (FinS.bind er h) fun vs H1 ⟨η1, ws, S1, f1, rp1, r1, h1⟩ => by
    split at h1
    · rename_i u v
      obtain ⟨v1, v2, rfl, r2, r3⟩ := repWs2 r1
      exact ⟨v1, v2, rfl, h1 η1 H1 _ (Fu.refl _ _) rp1 (((er.fu f1).set r2).set r3)⟩
    · exact h1.elim⟩
end VI
set_option Elab.async false
set_option linter.all false
set_option maxRecDepth 100000
namespace VI
open PySem PySem.Spec PyProof.Rows L2

/-! constants of the module -/
def KCon (K : PySem.W.Frag) (mg : Str → Option Value) (x : Str) (d : PyData) : Prop := ∃ (v : V) (u : Value), mg x = some u ∧ RelV v u ∧ ∀ η H, RepD K η H d v
theorem kCon {X : Cx} {ct : Nat → Option Addr} {E : EX} {x : Str} {d : PyData} {pos : Pos} (C : KCon X.K X.mg x d) (hg : Gl X x := by rfl) (hd : (x == ("__debug__" : Str)) = false := by decide) : PE X (.Name x pos) (tF (gx X ct) E (fC d)) := by
  obtain ⟨v, u, m, r, rd⟩ := C
  exact ig hg m r rd hd
def kRow (k : List Str) (d : PyData) : List Str × PyData := (k, d)
/-- a written dict whose keys are tuples of texts -/
def KDic (P : Program) (w : World) (K : PySem.W.Frag) (mg : Str → Option Value) (x : Str) (tab : List (List Str × PyData)) : Prop :=
  ∃ (d : Addr) (xs : List (List Key × Addr × Value)), mg x = some (.ref d) ∧ (∀ h : Heap, K.In h → h.DictOfH (tupleKind (mixKind P w)) d xs) ∧
    ∀ ks pd, tab.lookup ks = some pd → ∃ p, atKey xs (ks.map Sum.inr) = some p ∧ ∃ v, RelV v p.2 ∧ ∀ η H, RepD K η H pd v
def strsD : List PyData → Option (List Str)
  | [] => some []
  | .str x :: r => (strsD r).map (x :: ·)
  | _ :: _ => none
theorem strsD_ok {K : PySem.W.Frag} {η : List Addr} {H : Hp} : ∀ {ds : List PyData} {vs : List V} {ks : List Str}, strsD ds = some ks → RepDs K η H ds vs → vs = (ks.map (Sum.inr (α := Int))).map kV
  | [], _, _, e, r => by cases e; cases r; rfl
  | .str x :: ds, _, ks, e, r => by
    cases r with
    | cons r1 r2 =>
      cases r1
      cases q : strsD ds with
      | none => rw [strsD, q] at e; cases e
      | some ks' =>
        rw [strsD, q] at e
        cases e
        rw [strsD_ok q r2]
        rfl
  | .none :: _, _, _, e, _ => by cases e
  | .bool _ :: _, _, _, e, _ => by cases e
  | .int _ :: _, _, _, e, _ => by cases e
  | .list _ :: _, _, _, e, _ => by cases e
  | .tuple _ :: _, _, _, e, _ => by cases e
  | .dict _ :: _, _, _, e, _ => by cases e
def gKD (tab : List (List Str × PyData)) (w : W) (S : Store) : O := match w with
  | .d (.tuple ds) => match strsD ds with
    | some ks => (tab.lookup ks).map fun pd => (.d pd, S)
    | none => none
  | _ => none
theorem kDic {X : Cx} {ct : Nat → Option Addr} {E : EX} {k : Nat} {x : Str} {tab : List (List Str × PyData)} {i : Expr} {p pos : Pos} {f : FE} (C : KDic X.prog X.w X.K X.mg x tab) (hr : Room k X.A) (hi : PE X i (tF (gx X ct) E f)) (hg : Gl X x := by rfl) (hs : NoSl i := by intro _ _; rfl)
    (hd : (x == ("__debug__" : Str)) = false := by decide) : PE X (.Subscript (.Name x p) i pos) (tF (gx X ct) E (f1 (gKD tab) f)) := by
  obtain ⟨d, xs, m, hD, hT⟩ := C
  have hu : X.A.units + 1 < cLine := by have := hr.un; omega
  have ho : PE X (.Name x p) (tC (.ref d)) := pe_glob hg m rfl hd
  refine ⟨fun pins s σ H Q I h => ?_⟩
  refine subD_of PySem.F.slot_dict_getitem.lookup hs (thn (ho.run pins s σ H (fun y H1 => y = .ref d ∧ H1 = H) I ⟨rfl, rfl⟩) fun u s1 ⟨y, H1, I1, ry, ey, eH⟩ => ?_)
  subst ey
  subst eH
  obtain rfl : u = Value.ref d := ry
  refine thn (hi.run pins s1 σ H1 _ I1 (get1 (r := fun y H2 Q => ∃ b ks pd, y = .ref b ∧ SqT X.K H2 b ((ks.map (Sum.inr (α := Int))).map kV) ∧ tab.lookup ks = some pd ∧ ∀ v, (∀ η H, RepD X.K η H pd v) → Q v H2) (fun y H2 Q ⟨η, S, w, rp, r, h⟩ => ?_) σ H1 Q h)) fun iv s2 ⟨y, H2, I2, ry2, b, ks, pd, ey, hb, hl, q⟩ => ?_
  · clear h
    subst ey
    obtain rfl : iv = Value.ref b := ry2
    obtain ⟨pr, ep, v, rv, rd⟩ := hT ks pd hl
    have dd := hD s2.heap I2.kIn
    obtain ⟨its, rr, it, _⟩ := I2.tuple hb
    obtain ⟨o, g1, g2, n, g3⟩ := it
    have key : (tupleKind (mixKind X.prog X.w)).is s2.heap (ks.map Sum.inr) b := ⟨o, its.toArray, n, g1, g2, g3, by simpa using items_are rr⟩
    refine ⟨dd.typeIs, wpAny_getItem_heap (tupleKind_room_in1 hu) key dd ep ⟨v, H2, I2.tok _, rv, q v rd⟩⟩
  · unfold gKD at h
    split at h
    · rename_i ds
      split at h
      · rename_i ks ek
        cases r with
        | d r =>
          cases r with
          | tuple h1 h2 =>
            rw [strsD_ok ek h2] at h1
            cases el : tab.lookup ks with
            | none => rw [el] at h; exact h.elim
            | some pd =>
              rw [el] at h
              exact ⟨_, ks, pd, rfl, h1, el, fun v rv => same_val rp (.d (rv _ _)) h⟩
      · exact h.elim
    · exact h.elim
end VI
set_option Elab.async false
set_option linter.all false
set_option maxRecDepth 100000
namespace VI
open PySem PySem.Spec PyProof.Rows L2

/-! sorted, of texts -/
/-- x not above y -/
def leS (x y : Str) : Bool := !ltCps y.cps.toList x.cps.toList
theorem leS_iff {x y : Str} : leS x y = true ↔ x.cps.toList ≤ y.cps.toList := by
  unfold leS
  rw [ltCps_eq, Bool.not_eq_true', decide_eq_false_iff_not]
  exact List.not_lt
theorem leS_trans {x y z : Str} (h1 : leS x y = true) (h2 : leS y z = true) : leS x z = true := leS_iff.mpr (List.le_trans (leS_iff.mp h1) (leS_iff.mp h2))
theorem leS_total (x y : Str) : leS x y = true ∨ leS y x = true := by
  rcases List.le_total x.cps.toList y.cps.toList with h | h
  · exact .inl (leS_iff.mpr h)
  · exact .inr (leS_iff.mpr h)
theorem leS_anti {x y : Str} (h1 : leS x y = true) (h2 : leS y x = true) : x = y := by
  have e := List.le_antisymm (leS_iff.mp h1) (leS_iff.mp h2)
  cases x with
  | mk a =>
    cases y with
    | mk b =>
      have e' : a.toList = b.toList := e
      rw [Array.toList_inj.mp e']
theorem rising_pair : ∀ (r : List Str) (p : Str), risingS p r = true → (p :: r).Pairwise fun a b => leS a b = true
  | [], p, _ => List.pairwise_singleton _ _
  | x :: r, p, h => by
    rw [risingS, Bool.and_eq_true] at h
    have t := rising_pair r x h.2
    refine List.pairwise_cons.mpr ⟨fun z hz => ?_, t⟩
    rcases List.mem_cons.mp hz with e | hz
    · rw [e]; exact h.1
    · exact leS_trans h.1 ((List.pairwise_cons.mp t).1 z hz)
theorem sorted_pair : ∀ ys : List Str, sortedS ys = true → ys.Pairwise fun a b => leS a b = true
  | [], _ => List.Pairwise.nil
  | x :: r, h => rising_pair r x h
def srtS (zs : List Str) : List Str := zs.mergeSort leS
theorem srtS_eq {ys zs : List Str} (hp : ys.Perm zs) (hs : sortedS ys = true) : ys = srtS zs :=
  List.Perm.eq_of_pairwise (fun a b _ _ h1 h2 => leS_anti h1 h2) (sorted_pair ys hs) (List.pairwise_mergeSort (le := leS) (fun a b c => leS_trans) (fun a b => (Bool.or_eq_true _ _).mpr (leS_total a b)) zs) (hp.trans (List.mergeSort_perm zs leS).symm)
def gSorted (ws : List W) (S : Store) : O := match ws with
  | [u] => match asLW u S with
    | some us => match datas us with
      | some ds => match strsD ds with
        | some ks => if ks.length < 64 then some (.d (.list ((srtS ks).map .str)), S) else none
        | none => none
      | none => none
    | none => none
  | _ => none
theorem strs_rep {K : PySem.W.Frag} {η : List Addr} {H : Hp} : ∀ ks : List Str, RepDs K η H (ks.map PyData.str) (ks.map V.str)
  | [] => .nil
  | k :: ks => .cons (.str k) (strs_rep ks)
theorem strsD_vals {K : PySem.W.Frag} {η : List Addr} {H : Hp} {ds : List PyData} {vs : List V} {ks : List Str} (e : strsD ds = some ks) (r : RepDs K η H ds vs) : vs = ks.map V.str := by
  rw [strsD_ok e r, List.map_map]
  rfl
theorem c_sorted {X : Cx} {ct : Nat → Option Addr} : CallR X (.builtin "sorted") (SimL X ct gSorted) := CallR.fit cr_sortedS fun xs H Q ⟨η, S, ws, rp, rr, q⟩ => by
  unfold gSorted at q
  split at q
  · rename_i u
    obtain ⟨v, rfl, r⟩ := repWs1 rr
    split at q
    · rename_i us e1
      obtain ⟨a, vs, rfl, h1, h2⟩ := asLW_ok e1 rp r
      split at q
      · rename_i ds e2
        have h3 := datas_ok e2 h2
        split at q
        · rename_i ks e3
          split at q
          · rename_i hl
            rw [strsD_vals e3 h3] at h1
            refine ⟨a, ks, rfl, h1, hl, fun ys p hp hs np => ?_⟩
            rw [srtS_eq hp hs]
            exact new_list rp (strs_rep _) q p np
          · exact q.elim
        · exact q.elim
      · exact q.elim
    · exact q.elim
  · exact q.elim
end VI
set_option Elab.async false
set_option linter.all false
set_option maxRecDepth 100000
namespace VI
open PySem PySem.Spec PyProof.Rows L2

/-! a module's defs, all of them -/
def DefAt (K : PySem.W.Frag) (mg : Str → Option Value) (x : Str) (st : Stmt) : Prop := ∃ (f : Addr) (fd : FuncData), FunD K x x (defArgs st) (defBody st) (defScope st) [] [] f fd ∧ mg x = some (.ref f)
section
variable {P : Program} {w : World} {K : PySem.W.Frag} {mg : Str → Option Value} {base : Heap} {ct : Nat → Option Addr} {n : Nat} {x : Str} {st : Stmt} {N ps : List Str} {g : List W → Store → R W} {b : FS}
/-- how its arguments bind -/
def Bnd (x : Str) (st : Stmt) (ps : List Str) : Prop := ∀ (kV doc pm : Value) (an : Option Addr) (cdv cv : Value) (us : List Value), us.length = ps.length → bindArgs (PySem.W.fnOf x x (defArgs st) (defBody st) (defScope st) .none kV doc pm an cdv cv) ⟨us, []⟩ = pure (ps.zip us)
theorem callee_zero (D : DefAt K mg x st) (hB : Bnd x st ps) (h : ∀ ws S, g ws S = .bad) : Callee P w K mg base ct n x ps g := by
  obtain ⟨f, fd, F, m⟩ := D
  exact ⟨f, fd, fnG_zero h, m, F.kp, F.bindsN hB⟩
theorem callee_succ (D : DefAt K mg x st) (hB : Bnd x st ps) (hS : FnScope N ps (defScope st)) (e : ∀ ws S, g ws S = runB N.length b ws S)
    (h : ∀ (f : Addr) (cdv : Value) (A : Around) (outer : List Env) (s : Shared) (H : Hp) (E : XK), Room n (A.deeper (envOfC x (defScope st) s.heap.objs.size f cdv)) → A.guards = some [] → PSs (bodyX P w K mg base N x (defScope st) f cdv A outer s H E) (defBody st) (tS ⟨K, ct⟩ NX b)) :
    Callee P w K mg base ct (n + 1) x ps g := by
  obtain ⟨f, fd, F, m⟩ := D
  exact ⟨f, fd, FunD.okG F hS fun cdv A outer s H E r gd => ⟨b, fun ws S _ => e ws S, h f cdv A outer s H E r gd⟩, m, F.kp, F.bindsN hB⟩
end
end VI
set_option Elab.async false
set_option linter.all false
set_option maxRecDepth 100000
namespace VI
open PySem PySem.Spec PyProof.Rows L2

/-! isinstance, of built-in types -/
def isT (t T : String) : Bool := t == T || (t == "bool" && T == "int")
theorem kit_all (K : PySem.W.Frag) : (tys.all fun t => tys.all fun T => decide (PySem.W.kitOne K (.type t) (.type T) = some (isT t T))) = true := by kernel_rfl
theorem kit_ty {K : PySem.W.Frag} {t T : String} (h1 : t ∈ tys) (h2 : T ∈ tys) : PySem.W.kitOne K (.type t) (.type T) = some (isT t T) :=
  of_decide_eq_true (List.all_eq_true.mp (List.all_eq_true.mp (kit_all K) t h1) T h2)
def tyW (w : W) (S : Store) : Option String := match w with
  | .d .none => some "NoneType"
  | .d (.bool _) => some "bool"
  | .d (.int _) => some "int"
  | .d (.str _) => some "str"
  | .d (.list _) => some "list"
  | .d (.tuple _) => some "tuple"
  | .d (.dict _) => none
  | .loc l => match S[l]? with
    | some (.lst _) => some "list"
    | _ => none
  | .tp _ => some "tuple"
  | .fro _ => some "list"
theorem tup_ty {K : PySem.W.Frag} {H : Hp} {a : Addr} {vs : List V} (h : SqT K H a vs) : TyX K H (.ref a) (.type "tuple") := by
  rcases h with (h | ⟨o, h⟩) | ⟨o, its, n, e, c, _⟩
  · exact .base (.tup h)
  · exact .fTuple h
  · exact .kTuple e c
theorem tyW_ok {K : PySem.W.Frag} {η : List Addr} {H : Hp} {S : Store} {w : W} {v : V} {t : String} (e : tyW w S = some t) (rp : Rp K η H S) (r : RepW K η H w v) : TyX K H v (.type t) ∧ t ∈ tys := by
  cases w with
  | d x =>
    cases r with
    | d r =>
      cases r with
      | none => cases e; exact ⟨.base .non, by decide⟩
      | bool b => cases e; exact ⟨.base (.bl b), by decide⟩
      | int i => cases e; exact ⟨.base (.int i), by decide⟩
      | str x => cases e; exact ⟨.base (.str x), by decide⟩
      | list h1 h2 h3 => cases e; exact ⟨.base (.lst h1), by decide⟩
      | tuple h1 h2 => cases e; exact ⟨tup_ty h1, by decide⟩
      | dct _ _ => cases e
      | own _ _ _ => cases e
  | loc l =>
    unfold tyW at e
    cases q : S[l]? with
    | none => simp only [q] at e; cases e
    | some o =>
      cases o with
      | lst xs =>
        simp only [q] at e
        cases e
        obtain ⟨a, vs, rfl, _, h1, _⟩ := live_at q rp r
        exact ⟨.base (.lst h1), by decide⟩
      | dK _ => simp only [q] at e; cases e
      | dT _ => simp only [q] at e; cases e
  | tp ws =>
    cases e
    cases r with
    | tp h1 h2 => exact ⟨tup_ty h1, by decide⟩
  | fro ws =>
    cases e
    cases r with
    | fro h1 h2 =>
      rcases h1 with ⟨o, h⟩ | ⟨o, its, n, hk, hc, _⟩
      · exact ⟨.base (.frz h), by decide⟩
      · exact ⟨.kList hk hc, by decide⟩
def gIsi (T : String) (w : W) (S : Store) : O := (tyW w S).map fun t => (.d (.bool (isT t T)), S)
section
variable {X : Cx} {ct : Nat → Option Addr} {E : EX}
theorem i_isi (T : String) {x : Str} {e : Expr} {p p2 pos : Pos} {f : FE} (hT : T ∈ tys) (hg : Gl X "isinstance") (hm : X.mg "isinstance" = none) (hx : Gl X x) (hmx : X.mg x = none) (hv : bootBuiltins x = some (.type T)) (he : PE X e (tF (gx X ct) E f)) (hn : x ≠ "__name__" := by decide)
    (hd : (x == ("__debug__" : Str)) = false := by decide) (hs : starEach [e, .Name x p2] X.env = (false, eval e X.env) :: starEach [.Name x p2] X.env := by rfl) (hs2 : starEach [.Name x p2] X.env = (false, eval (.Name x p2) X.env) :: starEach [] X.env := by rfl) (hpl : (backTo pos (starEach [.Name x p2] X.env)).any (·.1) = false := by rfl)
    (hb : bootBuiltins "isinstance" = some (.builtin "isinstance") := by decide +kernel) : PE X (.Call (.Name "isinstance" p) [e, .Name x p2] [] pos) (tF (gx X ct) E (f1 (gIsi T) f)) :=
  PEw (pe_callB call_isi hg hm hb (pa_cons he (pa_cons (pe_bltn (v := .ty T) hx hmx hv rfl hn hd) pa_nil hs2) hs) (by decide) (by decide) hs hpl) fun σ H Q ⟨η, ρ, S, rp, er, h⟩ =>
    ⟨η, ρ, S, rp, er, FinR.mono (FinR.bind (rel := relW (gx X ct)) h) fun v H1 ⟨η1, w, S1, f1, rp1, r1, h1⟩ => by
      cases q : tyW w S1 with
      | none =>
        have h2 : FinP (gx X ct) (E σ) η1 H1 (lift (gIsi T w S1)) Q := h1
        unfold gIsi at h2
        rw [q] at h2
        exact h2.elim
      | some t =>
        have h2 : FinP (gx X ct) (E σ) η1 H1 (lift (gIsi T w S1)) Q := h1
        unfold gIsi at h2
        rw [q] at h2
        obtain ⟨ty, ht⟩ := tyW_ok q rp1 r1
        exact ⟨v, .ty T, .type t, .type T, isT t T, rfl, .ty T, ty, kit_ty ht hT, h2 η1 H1 _ (Fu.refl _ _) rp1 (.d (.bool _))⟩⟩
end
end VI
set_option Elab.async false
set_option linter.all false
set_option maxRecDepth 100000
namespace VI
open PySem PySem.Spec PyProof.Rows L2

/-! texts -/
section
variable {X : Cx} {ct : Nat → Option Addr} {E : EX}
/-- cut, of any of the three -/
def gSlA (a : W) (lo hi : Option Int) (S : Store) : O := match a with
  | .d (.str z) => if z.length ≤ lim then some (.d (.str (cutS z lo hi)), S) else none
  | a => gSl a lo hi S
theorem sl_all : SlR X (SimS X ct gSlA) := by
  intro pins s σ H x v vl vu lo hi sl Q I rx hs pl pu ⟨η, S, w, rp, r, h⟩
  unfold gSlA at h
  split at h
  · rename_i z
    split at h
    · rename_i hz
      cases r with
      | d r =>
        cases r
        exact sl_str pins s σ H _ v vl vu lo hi sl Q I rx hs pl pu ⟨z, rfl, lim_ok hz, same_val rp (.d (.str _)) h⟩
    · exact h.elim
  · exact sl_any pins s σ H x v vl vu lo hi sl Q I rx hs pl pu ⟨η, S, w, rp, r, h⟩
theorem i_slA {e : Expr} {lo hi : Option Expr} {fe : FE} {fl fh : FO} {pos p2 : Pos} (he : PE X e (tF (gx X ct) E fe)) (hl : PO X lo (tO (gx X ct) E fl)) (hu : PO X hi (tO (gx X ct) E fh)) : PE X (.Subscript e (.Slice lo hi none p2) pos) (tF (gx X ct) E (fSl gSlA fe fl fh)) :=
  PEw (pe_slice sl_all he hl hu) fun σ H Q ⟨η, ρ, S, rp, er, h⟩ =>
    ⟨η, ρ, S, rp, er, FinR.mono (FinR.bind h) fun v H1 ⟨η1, w, S1, f, rp1, r1, h1⟩ =>
      ⟨η1, ρ, S1, rp1, er.fu f, FinR.mono (FinR.bind h1) fun v2 H2 ⟨η2, l, S2, f2, rp2, r2, h2⟩ =>
        ⟨η2, ρ, S2, rp2, (er.fu f).fu f2, FinR.mono (FinR.bind h2) fun v3 H3 ⟨η3, u, S3, f3, rp3, r3, h3⟩ => by
          obtain rfl : v2 = l := r2
          obtain rfl : v3 = u := r3
          exact ⟨η3, S3, w, rp3, RepW.fu f3 _ _ (RepW.fu f2 _ _ r1), lift_ok h3⟩⟩⟩⟩
/-- in: a text within a text, a flat value in a sequence -/
def gInS (a b : W) (S : Store) : O := match a, b with
  | .d (.str i), .d (.str j) => some (.d (.bool (!(Builtin.Str.occurrences j i 0 j.length 1).isEmpty)), S)
  | _, _ => none
def gInA (a b : W) (S : Store) : O := match gInS a b S with
  | some o => some o
  | none => gIn false a b S
theorem sim_inS : OpR X (compareOp .In) (Sim2 X ct gInS) := OpR.fit op_in_str fun x y H Q ⟨η, S, wx, wy, rp, rx, ry, h⟩ => by
  unfold gInS at h
  split at h
  · cases rx with
    | d rx =>
      cases ry with
      | d ry =>
        cases rx
        cases ry
        exact ⟨_, _, rfl, rfl, same_val rp (.d (.bool _)) h⟩
  · exact h.elim
theorem sim_inA : OpR X (compareOp .In) (Sim2 X ct gInA) := OpR.orElse sim_inS sim_in
/-! methods of texts -/
def mSplit : GM := fun o ws S => match o, ws with
  | .d (.str a), [.d (.str b)] => if b.length ≠ 0 ∧ a.length + 2 ≤ lim then some (.d (.list ((Txt.split a b).map PyData.str)), S) else none
  | _, _ => none
theorem m_split : MtR X "str.split" (SimM X ct mSplit) := MtR.fit mt_split fun x xs H Q ⟨η, S, wx, ws, rp, rx, rr, h⟩ => by
  unfold mSplit at h
  split at h
  · rename_i a b
    obtain ⟨v, rfl, r⟩ := repWs1 rr
    cases rx with
    | d rx =>
      cases r with
      | d r =>
        cases rx
        cases r
        split at h
        · rename_i hz
          exact ⟨a, b, rfl, rfl, by simpa using hz.1, lim_ok hz.2, new_list rp (strs_rep _) h⟩
        · exact h.elim
  · exact h.elim
def fMethS (g : GM) (o : FE) (a : FA) : FE := fun ρ S => (o ρ S).bind fun ov S1 => match ov with
  | .d (.str z) => (a ρ S1).bind fun ws S2 => lift (g (.d (.str z)) ws S2)
  | _ => .bad
theorem i_methS {o e : Expr} {es : List Expr} {name : Str} {apos cpos : Pos} {id : String} {g : GM} {fo : FE} {fa : FA} (slot : Slot "str" name id) (hty : typeOf (.builtin id) = pure (.type "method_descriptor")) (hm : MtR X id (SimM X ct g)) (ho : PE X o (tF (gx X ct) E fo)) (ha : PA X (e :: es) (tA (gx X ct) E fa))
    (hbase : attributeBase o name X.env (eval o X.env) = eval o X.env := by rfl)
    (hfew : ((backTo cpos (starEach (e :: es) X.env)).all (fun x => !x.1) && (backToKw cpos (keywordEach [] X.env)).all (fun x => x.1.isSome)
      && decide ((e :: es).length + ([] : List Keyword).length + (if ([] : List Keyword).isEmpty then 0 else 1) < 30)) = true := by rfl)
    (hline : (apos.endLine == cpos.line) = true := by rfl) (hs : starEach (e :: es) X.env = (false, eval e X.env) :: starEach es X.env := by rfl) (hplain : (backTo cpos (starEach es X.env)).any (·.1) = false := by rfl) :
    PE X (.Call (.Attribute o name apos) (e :: es) [] cpos) (tF (gx X ct) E (fMethS g fo fa)) := PEw (pe_bm PySem.F.plainAttrs_str slot hty hm ho ha hbase hfew hline hs hplain) fun σ H Q ⟨η, ρ, S, rp, er, h⟩ =>
  ⟨η, ρ, S, rp, er, FinR.mono (FinR.bind (rel := relW (gx X ct)) h) fun v H1 ⟨η1, w, S1, f1, rp1, r1, h1⟩ => by
    split at h1
    · rename_i z
      have r0 := r1
      cases r1 with
      | d r1 =>
        cases r1
        exact ⟨rfl, η1, ρ, S1, rp1, er.fu f1, FinR.mono (FinR.bind (rel := relL (gx X ct)) h1) fun vs H2 ⟨η2, ws, S2, f2, rp2, r2, h2⟩ => ⟨η2, S2, _, ws, rp2, RepW.fu f2 _ _ r0, r2, lift_ok h2⟩⟩
    · exact h1.elim⟩
/-! a text walked -/
def sigW (z : Str) : List W := z.cps.toList.map fun c => W.d (.str ⟨#[c]⟩)
def wkStr (w : W) : Option Wk := match w with
  | .d (.str z) => some ⟨sigW z, fun _ => True⟩
  | _ => none
def fItStr (a : FE) : FK := fun ρ S => (a ρ S).bind fun w S1 => seqR (wkStr w) S1
theorem walk_str {K : PySem.W.Frag} {η : List Addr} {H : Hp} {z : Str} : WalkOk K ⟨sigW z, fun _ => True⟩ η H (Its z) where
  stop := fun η' H' S' f rp ok => by
    show z.cps.size ≤ (sigW z).length
    unfold sigW
    rw [List.length_map, Array.length_toList]
    exact Nat.le_refl _
  go := fun η' H' S' i w f rp ok e => by
    have e' : (sigW z)[i]? = some w := e
    unfold sigW at e'
    rw [List.getElem?_map, Array.getElem?_toList] at e'
    cases q : z.cps[i]? with
    | none => rw [q] at e'; cases e'
    | some c =>
      rw [q] at e'
      have ew : W.d (.str ⟨#[c]⟩) = w := Option.some.inj e'
      subst ew
      refine ⟨(Array.getElem?_eq_some_iff.mp q).1, fun y H'' yl => ?_⟩
      obtain ⟨rfl, c', q', rfl⟩ := yl
      rw [q] at q'
      cases q'
      exact ⟨Fu.refl _ _, rp, .d (.str _)⟩
theorem w_str {tg e : Expr} {f : FE} (he : PE X e (tF (gx X ct) E f)) : PI X tg e (tI (gx X ct) E (fItStr f)) := PIw (pi_str he) fun σ H R ⟨η, ρ, S, rp, er, h⟩ =>
  ⟨η, ρ, S, rp, er, FinR.mono (FinR.bind (rel := relW (gx X ct)) h) fun v H1 ⟨η1, w, S1, f1, rp1, r1, h1⟩ => by
    obtain ⟨x, e1, h2⟩ := seqR_fin h1
    unfold wkStr at e1
    split at e1
    · cases e1
      cases r1 with
      | d r1 => cases r1; exact ⟨_, rfl, h2 η1 H1 _ (Fu.refl _ _) rp1 walk_str⟩
    · cases e1⟩
end
end VI
namespace VI
open PySem PySem.Spec PyProof.Rows L2
section
variable {X : Cx} {ct : Nat → Option Addr}
/-- f() -/
theorem cCall0 {k n : Nat} {x : Str} {ps : List Str} {g : List W → Store → R W} {p pos : Pos} (C : Callee X.prog X.w X.K X.mg X.base ct k x ps g) (hr : Room k X.A) (hgd : X.A.guards = some []) (hn : ps.length = n := by rfl) (hn0 : n = 0 := by rfl) (hg : Gl X x := by rfl) (hdb : (x == ("__debug__" : Str)) = false := by decide) :
    PE X (.Call (.Name x p) [] [] pos) (tF (gx X ct) NX (fCall n g fA0)) := by
  obtain ⟨f, fd, F, m, kp, b⟩ := C
  subst hn
  refine PEw (pe_callG0 F hr hgd hg m kp b pass0 hdb) fun σ H Q ⟨η, ρ, S, rp, er, h⟩ => ?_
  have h1 : FinP (gx X ct) E0 η H (if ([] : List W).length = ps.length then frz S.length (g [] S) else .bad) Q := h
  rw [if_pos (by rw [hn0]; rfl)] at h1
  exact ⟨by rw [hn0]; rfl, η, S, [], rp, .nil, FinR.frz rp h1⟩
theorem cCall0L {k n : Nat} {x : Str} {ps : List Str} {g : List W → Store → R W} {p pos : Pos} (C : Callee X.prog X.w X.K X.mg X.base ct k x ps g) (hr : Room k X.A) (hgd : X.A.guards = some []) (hn : ps.length = n := by rfl) (hn0 : n = 0 := by rfl) (hg : Gl X x := by rfl) (hdb : (x == ("__debug__" : Str)) = false := by decide) :
    PE X (.Call (.Name x p) [] [] pos) (tF (gx X ct) NX (fCallL n g fA0)) := by
  obtain ⟨f, fd, F, m, kp, b⟩ := C
  subst hn
  refine PEw (pe_callG0 F hr hgd hg m kp b pass0 hdb) fun σ H Q ⟨η, ρ, S, rp, er, h⟩ => ?_
  have h1 : FinP (gx X ct) E0 η H (if ([] : List W).length = ps.length then g [] S else .bad) Q := h
  rw [if_pos (by rw [hn0]; rfl)] at h1
  exact ⟨by rw [hn0]; rfl, η, S, [], rp, .nil, h1⟩
end
end VI
namespace VI
open PySem PySem.Spec PyProof.Rows L2
/-- a, b, c = e1, e2, e3 -/
def fPar3 (i j k : Nat) (a : FA) : FS := fun ρ S => toS ρ (a ρ S) fun ws S1 => match ws with
  | [u, v, w] => .next (((ρ.set i (some u)).set j (some v)).set k (some w)) S1
  | _ => .bad
theorem s_par3 {X : Cx} {ct : Nat → Option Addr} {E : EX} (i j l : Nat) {x y z : Str} {a b c : Expr} {fa : FA} {px py pz pt pos : Pos} {kt k2 : Nat} {pt2 : Pos} (hc : X.calm = true) (hN : X.N.Nodup) (hij : i ≠ j) (hil : i ≠ l) (hjl : j ≠ l) (ha : PA X [a, b, c] (tA (gx X ct) E fa))
    (hi : X.N[i]? = some x := by rfl) (hj : X.N[j]? = some y := by rfl) (hl : X.N[l]? = some z := by rfl) (hx : X.env.scope.names.lookup x = some .local := by rfl) (hy : X.env.scope.names.lookup y = some .local := by rfl) (hz : X.env.scope.names.lookup z = some .local := by rfl)
    (hw : swappedStores [.Tuple [.Name x px, .Name y py, .Name z pz] kt pt] (.Tuple [a, b, c] k2 pt2) X.env = pure (some [x, y, z]) := by rfl)
    (hs : swapsWithSole [.Tuple [.Name x px, .Name y py, .Name z pz] kt pt] (.Tuple [a, b, c] k2 pt2) pos.line X.env = pure false := by rfl) :
    PS X (.Assign [.Tuple [.Name x px, .Name y py, .Name z pz] kt pt] (.Tuple [a, b, c] k2 pt2) pos) (tS (gx X ct) E (fPar3 i j l fa)) := PSw (ps_par3 hc hN hi hj hl hij hil hjl hx hy hz ha hw hs) fun D σ H ⟨η, ρ, S, rp, er, h⟩ =>
  ⟨η, ρ, S, rp, er, FinR.mono (FinS.bind er h) fun vs H1 ⟨η1, ws, S1, f1, rp1, r1, h1⟩ => by
    split at h1
    · rename_i u v w
      obtain ⟨v1, v2, v3, rfl, r2, r3, r4⟩ := repWs3 r1
      exact ⟨v1, v2, v3, rfl, h1 η1 H1 _ (Fu.refl _ _) rp1 ((((er.fu f1).set r2).set r3).set r4)⟩
    · exact h1.elim⟩
end VI
set_option Elab.async false
set_option linter.all false
set_option maxRecDepth 100000
namespace VI
open PySem PySem.Spec PyProof.Rows L2

/-! calls where something may be raised -/
section
variable {X : Cx} {ct : Nat → Option Addr} {CX : CXT} {k : Nat} {E : EX}
theorem run_E {f : Addr} {fd : FuncData} {ps : List Str} {sp : Sp} {pins : List (Addr × Obj)} {σ : L2.St} {H : Hp} {s : Shared} {Q : VK} {us : List Value} {vs : List V} {Z : XK} (F : FnG X.prog X.w X.K X.mg X.base CX k f fd ps sp) (room : Room k X.A) (gd : X.A.guards = some []) (bn : Binds X.K fd ps []) (px : PassesAt CX X σ Z)
    (inv : Inv X pins σ H s) (rel : Vals vs us) (pre : sp vs H Q Z) : wpAny (model X.prog X.w) X.A (call (.ref f) us) (EP X pins σ Q) X.xe s := by
  have ln : us.length = ps.length := rel.length.symm.trans (F.len _ _ _ _ pre)
  have bs := bn s us inv.kIn (by rw [List.append_nil]; exact ln)
  rw [List.append_nil] at bs
  refine wpAny_call (codeAny_mono (F.run X.A X.stack s H ⟨us, []⟩ us vs Q Z room gd inv.env0 bs rel pre) fun res t hres => ?_)
  cases res with
  | error er => exact px pins H s er t inv hres
  | ok fl =>
    cases fl with
    | ret u => exact inv.after hres
    | next => exact hres.elim
    | brk => exact hres.elim
    | cont => exact hres.elim
/-- a def of the module that may raise as CX says -/
def CalleeC (CX : CXT) (P : Program) (w : World) (K : PySem.W.Frag) (mg : Str → Option Value) (base : Heap) (ct : Nat → Option Addr) (k : Nat) (x : Str) (ps : List Str) (g : List W → Store → R W) : Prop :=
  ∃ (f : Addr) (fd : FuncData), FnG P w K mg base CX k f fd ps (spG ⟨K, ct⟩ ps.length g) ∧ mg x = some (.ref f) ∧ PySem.W.keepIn K (.ref f) = true ∧ Binds K fd ps []
theorem pass0E {σ : L2.St} {Z : XK} : PassesAt CX0 X σ Z := fun _ _ _ _ _ _ h => h.elim
variable {n : Nat} {x : Str} {ps : List Str} {g : List W → Store → R W} {p pos : Pos} {e : Expr} {es : List Expr} {fa : FA}
theorem cCallE (C : CalleeC CX X.prog X.w X.K X.mg X.base ct k x ps g) (px : ∀ σ, PassesAt CX X σ (E σ)) (room : Room k X.A) (gd : X.A.guards = some []) (ha : PA X (e :: es) (tA (gx X ct) E fa)) (hn : ps.length = n := by rfl) (hg : Gl X x := by rfl) (hdb : (x == ("__debug__" : Str)) = false := by decide)
    (he : starEach (e :: es) X.env = (false, eval e X.env) :: starEach es X.env := by rfl) (hpl : (backTo pos (starEach es X.env)).any (·.1) = false := by rfl) : PE X (.Call (.Name x p) (e :: es) [] pos) (tF (gx X ct) E (fCall n g fa)) := by
  obtain ⟨f, fd, F, m, kp, bn⟩ := C
  subst hn
  refine ⟨fun pins s σ H Q inv ⟨η, ρ, S, rp, er, h⟩ => ?_⟩
  refine wpAny_Call_Name_kw (ld_glob inv hg m ?_ hdb)
  refine PySem.W.callWith_K (h₀ := X.base) inv.ok.mod.kin kp (thn (ha.run pos pins s σ H _ inv ⟨η, ρ, S, rp, er, FinR.bind (rel := relL (gx X ct)) h⟩) fun us s1 ⟨vs, H1, inv1, rel, η1, ws, S1, f1, rp1, r1, h1⟩ => ⟨inv1.kIn, ?_⟩) he hpl
  have h2 : FinP (gx X ct) (E σ) η1 H1 (if ws.length = ps.length then frz S1.length (g ws S1) else .bad) Q := h1
  by_cases hw : ws.length = ps.length
  · rw [if_pos hw] at h2
    exact run_E F room gd bn (px σ) inv1 rel ⟨by rw [← r1.length]; exact hw, η1, S1, ws, rp1, r1, FinR.frz rp1 h2⟩
  · rw [if_neg hw] at h2
    exact h2.elim
end

/-! a def that may raise -/
def toRX : RF → R W
  | .next _ S => .ok (.d .none) S
  | .ret w S => .ok w S
  | .exc c fs _ S => .exc c fs S
  | _ => .bad
def runX (n : Nat) (b : FS) (ws : List W) (S : Store) : R W := toRX (b (startR n ws) S)
section
variable {P : Program} {w : World} {K : PySem.W.Frag} {mg : Str → Option Value} {base : Heap} {ct : Nat → Option Addr}
abbrev bodyE (P : Program) (w : World) (K : PySem.W.Frag) (mg : Str → Option Value) (base : Heap) (N : List Str) (qual : Str) (scope : Scope) (f : Addr) (cd : Value) (A : Around) (outer : List Env) (s : Shared) (H : Hp) (E : XK) : Cx :=
  cxOf (L2.CX P w) P w K mg base N qual scope f cd A outer s H E
theorem fnX_of {k : Nat} {f : Addr} {name qual : Str} {pr : Arguments} {body : List Stmt} {sc : Scope} {dV kV doc pm cdv ctv oc : Value} {an od : Option Addr} {sl : Array (Option Value)} {N ps : List Str} {g : List W → Store → R W}
    (lk : K.lookup f = some ⟨oc, od, .func (PySem.W.fnOf name qual pr body sc dV kV doc pm an cdv ctv), sl⟩) (hcd : PySem.W.codeIn K cdv qual = true) (hS : FnScope N ps sc)
    (hb : ∀ (A : Around) (outer : List Env) (s : Shared) (H : Hp) (E : XK), Room k (A.deeper (envOfC qual sc s.heap.objs.size f cdv)) → A.guards = some [] → ∃ b : FS, (∀ ws S, ws.length = ps.length → g ws S = runX N.length b ws S) ∧
      PSs (bodyE P w K mg base N qual sc f cdv A outer s H E) body (tS ⟨K, ct⟩ (fun _ => E) b)) :
    FnG P w K mg base (L2.CX P w) (k + 1) f (PySem.W.fnOf name qual pr body sc dV kV doc pm an cdv ctv) ps (spG ⟨K, ct⟩ ps.length g) where
  len := fun vs H Q E h => h.1
  run := by
    intro A outer s H args us vs Q E room gd env bnd rel ⟨hlen, η, S, ws, rp, rr, fin⟩
    have hin : K.In s.heap := env.mod.kin.keeps fun c o z => (env.bs c o z).1
    have nolim : s.heap.NoLimit := env.mod.nolimit.keeps fun c o z => (env.bs c o z).1
    have kinds : ∀ p ∈ ps.zip us, sc.names.lookup p.1 = some .local ∨ (sc.names.lookup p.1 = some .cell ∧ ((cellsFrom (s.heap.objs.size + 1) sc.names []).lookup p.1).isSome = true) := by
      rintro ⟨m, u⟩ hm
      rcases hS.par m (List.of_mem_zip hm).1 with z | z
      · exact Or.inl z
      · exact Or.inr ⟨z, PySem.W.cellsFrom_some _ _ _ (Or.inl z)⟩
    refine codeAny_call_function room.depth (hin _ _ lk) rfl hS.co hS.gen rfl (PySem.W.codeRec_of hin hcd) (bnd _ _ _ _ ?_)
    refine wpAny_newFunctionEnv_cells hS.kind kinds fun en hen t1 tx => ?_
    subst hen
    refine ⟨nolim.keeps tx.toInCall.keep, codeAny_func ?_⟩
    obtain ⟨b, eqb, hbody⟩ := hb A outer s H E (room.deeper _) gd
    have inv0 := inv_start (CX := L2.CX P w) (E := E) hS room.hd env hlen rel tx
    have wl : ws.length = ps.length := by rw [rr.length]; exact hlen
    rw [eqb ws S wl] at fin
    have pre : tS ⟨K, ct⟩ (fun _ => E) b { nx := fun _ H' => Q .non H', rt := Q } (L2.start N vs) H := by
      refine ⟨η, startR N.length ws, S, rp, start_rep rr, ?_⟩
      unfold runX at fin
      cases eb : b (startR N.length ws) S with
      | next ρ2 S2 => rw [eb] at fin; exact fun η2 H2 σ2 f2 rp2 er2 => fin η2 H2 .non f2 rp2 (.d .none)
      | ret u S2 => rw [eb] at fin; exact fin
      | brk ρ2 S2 => rw [eb] at fin; exact fin.elim
      | cnt ρ2 S2 => rw [eb] at fin; exact fin.elim
      | exc c fs ρ2 S2 => rw [eb] at fin; exact fun η2 H2 σ2 C d us f2 rp2 er2 hc hd hf => fin η2 H2 C d us f2 rp2 hc hd hf
      | bad => rw [eb] at fin; exact fin.elim
    refine wpAny_mono (hbody.run [] t1 (L2.start N vs) H _ inv0 pre) (fun fl t2 hf => ?_) fun e t2 hf => hf
    cases fl with
    | ret u =>
      obtain ⟨v, σ2, H2, J, rv, q⟩ := hf
      exact ⟨v, H2, J.os, J.bare, J.base, J.hok, rv, q⟩
    | next =>
      obtain ⟨σ2, H2, J, q⟩ := hf
      exact ⟨V.non, H2, J.os, J.bare, J.base, J.hok, rfl, q⟩
    | brk => exact False.elim (let ⟨_, _, _, q⟩ := hf; q)
    | cont => exact False.elim (let ⟨_, _, _, q⟩ := hf; q)
end

/-! raise C(..), C an own class over ValueError whose __init__ puts its arguments in fields -/
/-- what C(e1, .., en) comes to: an exception with these fields -/
def tMkF (C : Addr) (fs : List Str) (ta : TA) : L2.St → Hp → XK → Prop := fun σ H Q => ta σ H fun vs H1 => vs.length = fs.length ∧ ∀ d, H1 d = none → Q (.ref C) (some d) (upd H1 d (.xd (fs.zip vs).reverse))
def fRaise (c : Nat) (fs : List Str) (a : FA) : FS := fun ρ S => toS ρ (a ρ S) fun ws S1 => if ws.length = fs.length then .exc c (fs.zip ws).reverse ρ S1 else .bad
theorem s_raise {X : Cx} {ct : Nat → Option Addr} {E : EX} {W0 : WX} {e : Expr} {pos : Pos} {c : Nat} {C : Addr} {fs : List Str} {fa : FA} (hc : X.calm = true) (tk : Takes X W0) (hE : ∀ σ cls d H, E σ cls d H → W0 cls d σ H) (hct : ct c = some C) {ta : TA} (he : PMk X e (tMkF C fs ta)) (hta : ∀ σ H Q, tA (gx X ct) E fa σ H Q → ta σ H Q) :
    PS X (.Raise (some e) none pos) (tS (gx X ct) E (fRaise c fs fa)) := PSw (ps_raise hc tk he) fun D σ H ⟨η, ρ, S, rp, er, h⟩ =>
  hta σ H _ ⟨η, ρ, S, rp, er, FinR.mono (FinS.bind (rel := relL (gx X ct)) er h) fun vs H1 ⟨η1, ws, S1, f1, rp1, r1, h1⟩ => by
    have h2 : FinS (gx X ct) E η1 H1 (if ws.length = fs.length then .exc c (fs.zip ws).reverse ρ S1 else .bad) D := h1
    by_cases hw : ws.length = fs.length
    · rw [if_pos hw] at h2
      refine ⟨by rw [← r1.length]; exact hw, fun d hd => hE _ _ _ _ ?_⟩
      have fn := fu_new (η := η1) (o := .xd (fs.zip vs).reverse) hd
      have lv : vs.length = fs.length := by rw [← r1.length]; exact hw
      refine h2 η1 _ σ C d _ fn (rp1.new hd) ((er.fu f1).fu fn) hct upd_same ⟨?_, ?_⟩
      · rw [List.map_reverse, List.map_reverse, List.map_fst_zip (by omega), List.map_fst_zip (by omega)]
      · rw [List.map_reverse, List.map_reverse, List.map_snd_zip (by omega), List.map_snd_zip (by omega)]
        exact RepWs.reverse (RepWs.fu fn _ _ r1)
    · rw [if_neg hw] at h2
      exact h2.elim⟩
end VI
set_option Elab.async false
set_option linter.all false
set_option maxRecDepth 100000
namespace VI
open PySem PySem.Spec PyProof.Rows L2

/-! own exception classes: __init__ puts its arguments in fields -/
def spInit (C : Addr) (fs : List Str) : Sp := fun vs H Q _ => ∃ (a : Addr) (us : List V), vs = .ref a :: us ∧ us.length = fs.length ∧ H a = some (exo a C none) ∧ ∀ dx, H dx = none → dx ≠ a → Q .non (upd (upd H dx (exd dx (fs.zip us).reverse)) a (exo a C (some dx)))
section
variable {P : Program} {w : World} {K : PySem.W.Frag} {mg : Str → Option Value} {base : Heap} {k : Nat} {C fI : Addr} {fd : FuncData} {qual : Str} {pr : Arguments} {body : List Stmt} {sc : Scope} {f1 f2 p1 p2 : Str}
theorem init_one (F : FunD K "__init__" qual pr body sc [] [] fI fd) (hS : FnScope ["self", p1] ["self", p1] sc) (T : OexC K C) (no1 : PySem.W.findIn K (.ref C) f1 = some none)
    (hb : ∀ (cdv : Value) (A : Around) (outer : List Env) (s : Shared) (H : Hp) (E : XK), PSs (cxOf CX0 P w K mg base ["self", p1] qual sc fI cdv A outer s H E) body (tOst K f1 (tVar 0) (tVar 1))) :
    FnOk P w K mg base CX0 (k + 1) fI fd ["self", p1] (spInit C [f1]) := by
  refine FunD.ok F hS (fun vs H Q E h => ?_) fun cdv A outer s H vs Q E hr h => ?_
  · obtain ⟨a, us, rfl, hl, _⟩ := h
    rw [List.length_cons, hl]
    rfl
  · obtain ⟨a, us, rfl, hl, ha, q⟩ := h
    match us, hl with
    | [y], _ =>
      refine ⟨_, hb cdv A outer s H E, ?_⟩
      exact ⟨y, rfl, .ref a, rfl, a, C, rfl, T, no1, .inl ⟨ha, fun dx hd ne => q dx hd ne⟩⟩
theorem init_two (F : FunD K "__init__" qual pr body sc [] [] fI fd) (hS : FnScope ["self", p1, p2] ["self", p1, p2] sc) (T : OexC K C) (no1 : PySem.W.findIn K (.ref C) f1 = some none) (no2 : PySem.W.findIn K (.ref C) f2 = some none)
    (hb : ∀ (cdv : Value) (A : Around) (outer : List Env) (s : Shared) (H : Hp) (E : XK), PSs (cxOf CX0 P w K mg base ["self", p1, p2] qual sc fI cdv A outer s H E) body (tSeq (tOst K f1 (tVar 0) (tVar 1)) (tOst K f2 (tVar 0) (tVar 2)))) :
    FnOk P w K mg base CX0 (k + 1) fI fd ["self", p1, p2] (spInit C [f1, f2]) := by
  refine FunD.ok F hS (fun vs H Q E h => ?_) fun cdv A outer s H vs Q E hr h => ?_
  · obtain ⟨a, us, rfl, hl, _⟩ := h
    rw [List.length_cons, hl]
    rfl
  · obtain ⟨a, us, rfl, hl, ha, q⟩ := h
    match us, hl with
    | [y, z], _ =>
      refine ⟨_, hb cdv A outer s H E, ?_⟩
      refine ⟨y, rfl, .ref a, rfl, a, C, rfl, T, no1, .inl ⟨ha, fun dx hd ne => ?_⟩⟩
      refine ⟨z, rfl, .ref a, rfl, a, C, rfl, T, no2, .inr ⟨dx, [(f1, y)], upd_same, ?_, by show 1 ≤ 900; decide, ?_⟩⟩
      · rw [upd_ne ne, upd_same]
      · have e : upd (upd (upd H dx (exd dx [(f1, y)])) a (exo a C (some dx))) dx (exd dx [(f2, z), (f1, y)]) = upd (upd H dx (exd dx [(f2, z), (f1, y)])) a (exo a C (some dx)) := by
          funext b
          by_cases h1 : b = dx
          · subst h1; rw [upd_same, upd_ne ne, upd_same]
          · rw [upd_ne h1]
            by_cases h2 : b = a
            · subst h2; rw [upd_same, upd_same]
            · rw [upd_ne h2, upd_ne h2, upd_ne h1, upd_ne h1]
        show Q .non _
        rw [e]
        exact q dx hd ne
end
/-- the class x at C, its fields fs -/
structure OwnX (P : Program) (w : World) (K : PySem.W.Frag) (mg : Str → Option Value) (base : Heap) (k : Nat) (x : Str) (C : Addr) (fs : List Str) : Prop where
  at_ : mg x = some (.ref C)
  T : OexC K C
  init : ∃ (fI : Addr) (fd : FuncData) (ps : List Str), PySem.W.findIn K (.ref C) "__init__" = some (some (.ref fI)) ∧ PySem.W.typeIn K (.ref fI) = some (.type "function") ∧ FnOk P w K mg base CX0 k fI fd ps (spInit C fs) ∧ Binds K fd ps []
theorem pmk_F {X : Cx} {ct : Nat → Option Addr} {E : EX} {k : Nat} {x : Str} {C : Addr} {fs : List Str} {e : Expr} {es : List Expr} {p pos : Pos} {fa : FA} (O : OwnX X.prog X.w X.K X.mg X.base k x C fs) (hr : Room (k + 1) X.A) (hn : fs.length ≤ 1000) (ha : PA X (e :: es) (tA (gx X ct) E fa)) (hg : Gl X x := by rfl)
    (hdb : (x == ("__debug__" : Str)) = false := by decide) (he : starEach (e :: es) X.env = (false, eval e X.env) :: starEach es X.env := by rfl) (hpl : (backTo pos (starEach es X.env)).any (·.1) = false := by rfl) :
    PMk X (.Call (.Name x p) (e :: es) [] pos) (tMkF C fs (tA (gx X ct) E fa)) := by
  obtain ⟨m, T, fI, fd, ps, iC, tI, F1, bn⟩ := O
  have base := pmk_oex (p := p) (ds := []) (dvs := []) T iC tI F1 hr bn .nil pass0 hg m ha hdb he hpl
  intro pins s σ H Q I ⟨η, ρ, S, rp, er, h⟩
  refine base pins s σ H Q I ⟨η, ρ, S, rp, er, FinR.mono h fun vs H1 ⟨hl, q⟩ => ?_⟩
  refine ⟨by rw [hl]; exact hn, fun a ha => ⟨a, vs, by rw [List.append_nil], hl, upd_same, fun dx hd ne => ?_⟩⟩
  have hd1 : H1 dx = none := by rw [upd_ne ne] at hd; exact hd
  refine ⟨rfl, dx, (fs.zip vs).reverse, upd_same, ?_, hd1, ?_⟩
  · rw [upd_ne ne, upd_same]
  · have e : upd (del (upd (upd (upd H1 a (exo a C none)) dx (exd dx (fs.zip vs).reverse)) a (exo a C (some dx))) a) dx (.xd (fs.zip vs).reverse) = upd H1 dx (.xd (fs.zip vs).reverse) := by
      funext b
      by_cases h1 : b = dx
      · subst h1; rw [upd_same, upd_same]
      · rw [upd_ne h1, upd_ne h1]
        by_cases h2 : b = a
        · subst h2; rw [del_same, ha]
        · rw [del_ne h2, upd_ne h2, upd_ne h1, upd_ne h2]
    rw [e]
    exact q dx hd1
theorem s_raiseC {X : Cx} {ct : Nat → Option Addr} {E : EX} {W0 : WX} {k c : Nat} {x : Str} {C : Addr} {fs : List Str} {e : Expr} {es : List Expr} {p pos pos2 : Pos} {fa : FA} (hc : X.calm = true) (tk : Takes X W0) (hE : ∀ σ cls d H, E σ cls d H → W0 cls d σ H) (hct : ct c = some C) (O : OwnX X.prog X.w X.K X.mg X.base k x C fs)
    (hr : Room (k + 1) X.A) (hn : fs.length ≤ 1000) (ha : PA X (e :: es) (tA (gx X ct) E fa)) (hg : Gl X x := by rfl) (hdb : (x == ("__debug__" : Str)) = false := by decide) (he : starEach (e :: es) X.env = (false, eval e X.env) :: starEach es X.env := by rfl) (hpl : (backTo pos (starEach es X.env)).any (·.1) = false := by rfl) :
    PS X (.Raise (some (.Call (.Name x p) (e :: es) [] pos)) none pos2) (tS (gx X ct) E (fRaise c fs fa)) :=
  s_raise hc tk hE hct (pmk_F (ct := ct) (E := E) O hr hn ha hg hdb he hpl) fun _ _ _ h => h
end VI
set_option Elab.async false
set_option linter.all false
set_option maxRecDepth 100000
namespace VI
open PySem PySem.Spec PyProof.Rows L2

/-! try with several clauses, each with a name or without -/
/-- a clause as it is read: its class, its slot if it gives a name, its suite -/
structure Cl where
  c : Value
  slot : Option Nat
  ts : Addr → Value → Option Addr → TS
def endsBy (D : Ends) : Option Nat → Ends
  | none => D
  | some i => { nx := fun σ H => D.nx (σ.set i none) H, rt := D.rt, bk := fun σ H => D.bk (σ.set i none) H, ct := fun σ H => D.ct (σ.set i none) H }
def slotBy (σ : L2.St) (a : Addr) : Option Nat → L2.St
  | none => σ
  | some i => σ.set i (some (.ref a))
def wMix (K : PySem.W.Frag) (Wout : WX) (D : Ends) : List Cl → WX
  | [] => Wout
  | k :: r => fun cls d σ H => ∃ b, PySem.W.exmOne K cls k.c = some b ∧ (b = true → ∀ a, H a = none → k.ts a cls d (endsBy D k.slot) (slotBy σ a k.slot) H) ∧ (b = false → wMix K Wout D r cls d σ H)
inductive ClsOk (X : Cx) : List ExceptHandler → List Cl → Prop
  | nil : ClsOk X [] []
  | plain {x : Str} {c : Value} {ts : Addr → Value → Option Addr → TS} {b0 : Stmt} {suite : List Stmt} {np q : Pos} {hds : List ExceptHandler} {l : List Cl} (hc : Names X x c)
      (hsu : ∀ (a : Addr) (oe : Obj) (cls : Value) (d : Option Addr) (pn : List (Addr × Obj)), Zc cls d oe → (∃ vs, oe.data = .fields vs) → PSs (X.suite a ((a, oe) :: pn)) (b0 :: suite) (ts a cls d)) (r : ClsOk X hds l) :
      ClsOk X (.ExceptHandler (some (.Name x np)) none (b0 :: suite) q :: hds) (⟨c, none, ts⟩ :: l)
  | named {x y : Str} {c : Value} {i : Nat} {ts : Addr → Value → Option Addr → TS} {b0 : Stmt} {suite : List Stmt} {np q : Pos} {hds : List ExceptHandler} {l : List Cl} (hc : Names X x c) (hN : X.N.Nodup) (hi : X.N[i]? = some y) (hy : X.env.kindOf y = some .local)
      (hsu : ∀ (a : Addr) (oe : Obj) (cls : Value) (d : Option Addr) (pn : List (Addr × Obj)), Zc cls d oe → (∃ vs, oe.data = .fields vs) → PSs (X.suite a ((a, oe) :: pn)) (b0 :: suite) (ts a cls d)) (r : ClsOk X hds l) :
      ClsOk X (.ExceptHandler (some (.Name x np)) (some y) (b0 :: suite) q :: hds) (⟨c, some i, ts⟩ :: l)
section
variable {X : Cx} {body : List Stmt} {h0 : ExceptHandler} {hds : List ExceptHandler} {l : List Cl} {pos : Pos} {tb : WX → TS} {Wout : WX}
/-- an exception that has landed at a, the clauses left -/
theorem mix_go (hs : X.stack = X.env :: X.outer) (hf : X.env.frame = some X.env.locals) (tk : Takes X Wout) {pins : List (Addr × Obj)} {D : Ends} {B : Heap} {sI s' : Shared} {a : Addr} {σ' : L2.St} {H' : Hp} {cls : Value} {d : Option Addr} {h3 : Heap} (ok : X.Ok)
    (J : Inv X pins σ' H' sI) (nb : ∀ b o, sI.heap.get? b = some o → b ∉ frs X.stack → B.get? b = some o) (up : sI.heap.UpToSlots s'.heap) (up3 : s'.heap.UpToSlots h3) (na : H' a = none) (os : s'.os = sI.os) (ag : AllBare s'.gens)
    (nL : a ≠ X.env.locals) (nF : a ∉ X.fs) (fl3 : HandSPX.FlyingZ B (X.env :: X.outer) a (Zc cls d) h3) :
    ∀ {cs : List ExceptHandler} {m : List Cl}, ClsOk X cs m → wMix X.K Wout D m cls d σ' H' → wpAny (model X.prog X.w) X.A (handleBy (.ref a) X.env cs) (SP X pins D) X.xe { s' with heap := h3 } := by
  have J3 : Inv X pins σ' H' { s' with heap := h3 } := J.landed nb fl3.1 (up.trans up3) os ag
  obtain ⟨oe3, vs3, he3, hz3, hd3⟩ := fl3.there
  have S3 := J3.suite he3 hd3 na nL nF
  have asked : ∀ {x : Str} {c : Value} {np : Pos} {Q : Value → Shared → Prop} {E : Value → Shared → Prop}, Names X x c → Q c { s' with heap := h3 } → wpAny (model X.prog X.w) (X.A.mark (some (.ref a))) (eval (.Name x np) X.env) Q E { s' with heap := h3 } := fun {x c np Q E} hc q => by
    obtain ⟨g1, g2, g3 | ⟨g3, g4, g5⟩⟩ := hc
    · exact ld_glob (X := X.suite a ((a, oe3) :: (X.pn ++ pins))) S3 g1 g3 q g2
    · exact ld_blt (X := X.suite a ((a, oe3) :: (X.pn ++ pins))) S3 g1 g3 g4 q g5 g2
  have looks : ∀ {c : Value} {b : Bool}, PySem.W.exmOne X.K cls c = some b → _ := fun {c b} e => PySem.W.exm_one (M := model X.prog X.w) J3.kIn (show PySem.W.Looks (model X.prog X.w) h3 (typeOf (.ref a)) cls from fun A Q E s k q => wpAny_typeOf_ref (k _ _ he3) (by rw [hz3.1]; exact q)) e
  intro cs m hk
  induction hk with
  | nil =>
    intro w
    refine wpAny_handleBy_nil ?_
    obtain ⟨_, _, _, oe, vs, T, _, _, he, _, hd, h1, _⟩ := id fl3
    unfold PySem.passOn
    refine wpAny_bind (wpAny_field he hd h1 ?_)
    rw [if_neg (show ¬ ((Value.ref T == Value.none) = true) from by simp)]
    have again : wpAny (model X.prog X.w) X.A (setFlight (.ref a) X.env.frame) (fun _ s4 => wpAny (model X.prog X.w) X.A (throw (.ref a) : Sem Flow) (SP X pins D) X.xe s4) X.xe { s' with heap := h3 } := by
      rw [hf]
      exact HandSPX.setFlight_upZ fl3 fun h4 hh4 up4 => wpAny_throw (tk _ _ ⟨a, B, sI, pins, σ', H', cls, d, rfl, J, nb, (up.trans up3).trans up4, .inr (.inr (by rw [hs]; exact hh4)), na, os, ag, w⟩)
    first
      | exact wpAny_bind (wpAny_pure (wpAny_bind again))
      | exact wpAny_bind again
  | plain hc hsu _ ih =>
    rintro ⟨b, e, yes, no⟩
    refine wpAny_handleBy_cons (codeAny_handlers_test ?_) (by intro z; cases z)
    refine asked hc ((looks e).here ?_)
    cases b with
    | false => exact ih (no rfl)
    | true =>
      refine codeAny_handlers_suite (HandSPX.lands_againZ fl3 fun h4 fl4 up4 => ?_)
      have J4 : Inv X pins σ' H' { s' with heap := h4 } := J.landed nb fl4.1 ((up.trans up3).trans up4) os ag
      obtain ⟨oe4, vs4, he4, hz4, hd4⟩ := fl4.there
      refine wpAny_mono ((hsu a oe4 cls d (X.pn ++ pins) hz4 ⟨_, hd4⟩).run [] _ _ H' _ (J4.suite he4 hd4 na nL nF) (yes rfl a na)) (fun f s6 hsp => ?_) fun _ _ z => z.elim
      cases f with
      | next => obtain ⟨σ6, H6, S6, q6⟩ := hsp; exact ⟨_, _, S6.unsuite ok, q6⟩
      | brk => obtain ⟨σ6, H6, S6, q6⟩ := hsp; exact ⟨_, _, S6.unsuite ok, q6⟩
      | cont => obtain ⟨σ6, H6, S6, q6⟩ := hsp; exact ⟨_, _, S6.unsuite ok, q6⟩
      | ret u => obtain ⟨v6, σ6, H6, S6, r6, q6⟩ := hsp; exact ⟨_, _, _, S6.unsuite ok, r6, q6⟩
  | @named x y c i ts b0 suite np q hds l hc hN hi hy hsu _ ih =>
    rintro ⟨b, e, yes, no⟩
    refine wpAny_handleBy_cons (codeAny_handlers_test ?_) (by intro z; cases z)
    refine asked hc ((looks e).here ?_)
    cases b with
    | false => exact ih (no rfl)
    | true =>
      refine codeAny_handlers_suite_as (HandSPX.lands_againZ fl3 fun h4 fl4 up4 => ?_)
      have J4 : Inv X pins σ' H' { s' with heap := h4 } := J.landed nb fl4.1 ((up.trans up3).trans up4) os ag
      obtain ⟨oe4, vs4, he4, hz4, hd4⟩ := fl4.there
      refine store_ok (X := X.suite a ((a, oe4) :: (X.pn ++ pins))) (v := .ref a) (J4.suite he4 hd4 na nL nF) hN hi (.inl hy) rfl (fun s5 S5 => ?_) (.inr hy)
      refine wpAny_mono ((hsu a oe4 cls d (X.pn ++ pins) hz4 ⟨_, hd4⟩).run [] s5 _ H' _ S5 (yes rfl a na)) (fun f s6 hsp => ?_) fun _ _ z => z.elim
      have gone : ∀ {σ6 : L2.St} {H6 : Hp} {Q : Shared → Prop}, Inv (X.suite a ((a, oe4) :: (X.pn ++ pins))) [] σ6 H6 s6 → (∀ s7, Inv X pins (σ6.set i none) H6 s7 → Q s7) →
          wpAny (model X.prog X.w) X.A (do bindName X.env y .none; unbindBehindTheSuite X.env y q) (fun _ s7 => Q s7) X.xe s6 := fun {σ6 H6 Q} S6 hq => gone_ok (S6.unsuite ok) hN hi hy hq
      cases f with
      | next => obtain ⟨σ6, H6, S6, q6⟩ := hsp; exact gone S6 fun s7 J7 => ⟨_, _, J7, q6⟩
      | brk => obtain ⟨σ6, H6, S6, q6⟩ := hsp; exact gone S6 fun s7 J7 => ⟨_, _, J7, q6⟩
      | cont => obtain ⟨σ6, H6, S6, q6⟩ := hsp; exact gone S6 fun s7 J7 => ⟨_, _, J7, q6⟩
      | ret u => obtain ⟨v6, σ6, H6, S6, r6, q6⟩ := hsp; exact gone S6 fun s7 J7 => ⟨_, _, _, J7, r6, q6⟩
theorem ps_try_mix (hs : X.stack = X.env :: X.outer) (hf : X.env.frame = some X.env.locals) (tk : Takes X Wout)
    (hb : ∀ (W : WX) (pn : List (Addr × Obj)) (xe : Value → Shared → Prop), Takes (X.tr pn xe) W → PassesOwn (model X.prog X.w) X.A X.env xe → PSs (X.tr pn xe) body (tb W))
    (hh : ClsOk X (h0 :: hds) l) : PS X (.Try body (h0 :: hds) [] [] pos) (fun D σ H => tb (wMix X.K Wout D l) D σ H) := ⟨fun pins s σ H D I h => by
  have ok := I.ok
  have hfr : X.A.frames = some (X.env :: X.outer) := by rw [ok.frames, hs]
  refine wpAny_Try_except ?_
  refine wpAny_mono ((hb (wMix X.K Wout D l) (X.pn ++ pins) (fun e s1 => wpAny (model X.prog X.w) X.A (noteFrame e X.env) (fun _ s2 => wpAny (model X.prog X.w) X.A (setFlight e none) (fun _ s3 =>
    wpAny (model X.prog X.w) X.A (handleBy e X.env (h0 :: hds)) (SP X pins D) X.xe s3) X.xe s2) X.xe s1) (fun u s' air => ?_) PassesOwn.looking).run [] s σ H D (I.toTry _) h) (fun f s1 hsp => ?_) fun _ _ z => z
  · obtain ⟨a, B, sI, pins', σ', H', cls, d, rfl, J', nb, up, sky, na, os, ag, w⟩ := air
    have J : Inv X pins σ' H' sI := J'.ofTry ok
    show wpAny (model X.prog X.w) X.A (noteFrame (.ref a) X.env) _ _ _
    refine Sky.land Zc.steady hfr hf (by rw [← hs]; exact sky) fun h3 fl3 up3 => ?_
    obtain ⟨oe3, vs3, he3, hz3, hd3⟩ := fl3.there
    have nfr : a ∉ frs (X.env :: X.outer) := fun hm => by
      obtain ⟨_, o', e', hnf⟩ := fl3.2.2.1.mem hm
      rw [he3] at e'
      cases e'
      exact hnf _ hd3
    refine mix_go hs hf tk ok J nb up up3 na os ag (fun z => nfr (List.mem_filterMap.mpr ⟨X.env, List.mem_cons_self, by rw [hf, z]⟩)) (fun hm => ?_) fl3 hh w
    obtain ⟨e, he, q⟩ := List.mem_filterMap.mp hm
    exact nfr (List.mem_filterMap.mpr ⟨e, List.mem_cons_of_mem _ he, q⟩)
  · cases f with
    | next => obtain ⟨σ', H', J', q⟩ := hsp; exact wpAny_execs_nil ⟨σ', H', J'.ofTry ok, q⟩
    | brk => obtain ⟨σ', H', J', q⟩ := hsp; exact ⟨σ', H', J'.ofTry ok, q⟩
    | cont => obtain ⟨σ', H', J', q⟩ := hsp; exact ⟨σ', H', J'.ofTry ok, q⟩
    | ret u => obtain ⟨v, σ', H', J', r, q⟩ := hsp; exact ⟨v, σ', H', J'.ofTry ok, r, q⟩⟩
end
end VI
set_option Elab.async false
set_option linter.all false
set_option maxRecDepth 100000
namespace VI
open PySem PySem.Spec PyProof.Rows L2

/-! try: .. / except C as e: return (c1, e.f1, ..) -/
inductive Xp where
  | k (d : PyData)
  | fld (f : Str)
def constV : PyData → Option V
  | .none => some .non
  | .bool b => some (.bl b)
  | .int i => some (.int i)
  | .str x => some (.str x)
  | _ => none
theorem constV_rep {K : PySem.W.Frag} {η : List Addr} {H : Hp} {d : PyData} {v : V} (e : constV d = some v) : RepD K η H d v := by
  cases d <;> cases e <;> constructor
def xpW (fs : List (Str × W)) : Xp → Option W
  | .k d => some (.d d)
  | .fld f => fs.lookup f
def xpsW (fs : List (Str × W)) : List Xp → Option (List W)
  | [] => some []
  | x :: r => match xpW fs x, xpsW fs r with
    | some w, some ws => some (w :: ws)
    | _, _ => none
def XpV (us : List (Str × V)) : Xp → V → Prop
  | .k d, v => constV d = some v
  | .fld f, v => us.lookup f = some v
abbrev XpsV (us : List (Str × V)) : List Xp → List V → Prop := Paired (XpV us)
def Xp.flat : Xp → Bool
  | .k d => (constV d).isSome
  | .fld _ => true
theorem lookup_rep {K : PySem.W.Frag} {η : List Addr} {H : Hp} : ∀ {fs : List (Str × W)} {us : List (Str × V)} {f : Str} {w : W}, fs.map (·.1) = us.map (·.1) → RepWs K η H (fs.map (·.2)) (us.map (·.2)) → fs.lookup f = some w → ∃ v, us.lookup f = some v ∧ RepW K η H w v
  | [], _, _, _, _, _, e => by cases e
  | (a, w0) :: fs, [], _, _, h, _, _ => by cases h
  | (a, w0) :: fs, (b, v0) :: us, f, w, h, r, e => by
    have hab : a = b := (List.cons.inj h).1
    subst hab
    cases r with
    | cons r1 r2 =>
      rw [List.lookup_cons] at e ⊢
      cases q : f == a with
      | true =>
        rw [q] at e
        have z : w0 = w := Option.some.inj e
        subst z
        exact ⟨v0, rfl, r1⟩
      | false =>
        rw [q] at e
        exact lookup_rep (List.cons.inj h).2 r2 e
theorem xps_rep {K : PySem.W.Frag} {η : List Addr} {H : Hp} {fs : List (Str × W)} {us : List (Str × V)} (h1 : fs.map (·.1) = us.map (·.1)) (h2 : RepWs K η H (fs.map (·.2)) (us.map (·.2))) : ∀ {xs : List Xp} {ws : List W}, xs.all Xp.flat = true → xpsW fs xs = some ws → ∃ vs, XpsV us xs vs ∧ RepWs K η H ws vs
  | [], ws, _, e => by cases e; exact ⟨[], .nil, .nil⟩
  | x :: xs, ws, hf, e => by
    rw [List.all_cons, Bool.and_eq_true] at hf
    rw [xpsW] at e
    cases q : xpW fs x with
    | none => rw [q] at e; cases e
    | some w =>
      cases q2 : xpsW fs xs with
      | none => rw [q, q2] at e; cases e
      | some ws2 =>
        rw [q, q2] at e
        cases e
        obtain ⟨vs, p, r⟩ := xps_rep h1 h2 hf.2 q2
        cases x with
        | k d =>
          cases q
          obtain ⟨v, ev⟩ := Option.isSome_iff_exists.mp hf.1
          exact ⟨v :: vs, .cons ev p, .cons (.d (constV_rep ev)) r⟩
        | fld f =>
          obtain ⟨v, ev, rv⟩ := lookup_rep h1 h2 q
          exact ⟨v :: vs, .cons ev p, .cons rv r⟩
/-- what is said of the parts of such a suite: i the slot of the exception's name, Cs the classes that may come -/
structure XArgs (X : Cx) (i : Option Nat) (Cs : Addr → Prop) (es : List Expr) (xs : List Xp) : Prop where
  run : ∀ (a : Addr) (oe : Obj) (cls : Value) (d : Option Addr) (pn : List (Addr × Obj)) (C : Addr), Zc cls d oe → (∃ vs, oe.data = .fields vs) → cls = .ref C → Cs C → ∃ t : TA, PA (X.suite a ((a, oe) :: pn)) es t ∧
    ∀ (σ : L2.St) (H : Hp) (Q : List V → Hp → Prop) (dd : Addr) (us : List (Str × V)) (vs : List V), (∀ j, i = some j → σ[j]? = some (some (.ref a))) → d = some dd → H dd = some (.xd us) → XpsV us xs vs → Q vs H → t σ H Q
section
variable {X : Cx} {i : Option Nat} {Cs : Addr → Prop} {es : List Expr} {xs : List Xp}
theorem xa_nil : XArgs X i Cs [] [] := ⟨fun a oe cls d pn C _ _ _ _ => ⟨_, pa_nil, fun σ H Q dd us vs _ _ _ p q => by cases p; exact q⟩⟩
theorem xa_const {e : Expr} {d0 : PyData} {v0 : V} (hd : constV d0 = some v0) (he : ∀ (a : Addr) (oe : Obj) (pn : List (Addr × Obj)), PE (X.suite a ((a, oe) :: pn)) e (tC v0)) (hr : XArgs X i Cs es xs) (hs : starEach (e :: es) X.env = (false, eval e X.env) :: starEach es X.env := by rfl) : XArgs X i Cs (e :: es) (.k d0 :: xs) := ⟨fun a oe cls d pn C z f hC hCs => by
  obtain ⟨t, pt, ht⟩ := hr.run a oe cls d pn C z f hC hCs
  refine ⟨_, pa_cons (he a oe pn) pt hs, fun σ H Q dd us vs sl ed ex p q => ?_⟩
  cases p with
  | @cons _ v _ ws p1 p2 =>
    have ev : v0 = v := Option.some.inj (hd.symm.trans p1)
    subst ev
    exact ht σ H (fun ws' H' => Q (v0 :: ws') H') dd us ws sl ed ex p2 q⟩
theorem xa_fld {j : Nat} {x f : Str} {p1 p2 : Pos} (hT : ∀ C, Cs C → XfC X.K C ∧ PySem.W.findIn X.K (.ref C) f = some none) (hr : XArgs X (some j) Cs es xs) (hj : X.N[j]? = some x := by rfl) (hv : Vis X.env.scope x := by first | exact Or.inl rfl | exact Or.inr (Or.inl rfl) | exact Or.inr (Or.inr rfl))
    (hd : (x == ("__debug__" : Str)) = false := by decide) (hcd : (x == ("__classdict__" : Str)) = false := by decide) (hb : attributeBase (.Name x p1) f X.env (eval (.Name x p1) X.env) = eval (.Name x p1) X.env := by rfl)
    (hs : starEach (.Attribute (.Name x p1) f p2 :: es) X.env = (false, eval (.Attribute (.Name x p1) f p2) X.env) :: starEach es X.env := by rfl) : XArgs X (some j) Cs (.Attribute (.Name x p1) f p2 :: es) (.fld f :: xs) := ⟨fun a oe cls d pn C z fl hC hCs => by
  obtain ⟨t, pt, ht⟩ := hr.run a oe cls d pn C z fl hC hCs
  obtain ⟨T, no⟩ := hT C hCs
  have he : PE (X.suite a ((a, oe) :: pn)) (.Name x p1) (tVar j) := pe_var hj hv hd hcd
  refine ⟨_, pa_cons (pe_xf T no z fl he hb) pt hs, fun σ H Q dd us vs sl ed ex p q => ?_⟩
  cases p with
  | @cons _ v _ ws q1 q2 =>
    exact ⟨.ref a, sl j rfl, rfl, hC, dd, us, v, ed, ex, q1, ht σ H (fun ws' H' => Q (v :: ws') H') dd us ws sl ed ex q2 q⟩⟩
/-- the suite's reading -/
def tsX (Cs : Addr → Prop) (i : Option Nat) (xs : List Xp) : Addr → Value → Option Addr → TS := fun a cls d D σ H => ∃ (C dd : Addr) (us : List (Str × V)) (vs : List V), cls = .ref C ∧ Cs C ∧ d = some dd ∧ H dd = some (.xd us) ∧ (∀ j, i = some j → σ[j]? = some (some (.ref a))) ∧ XpsV us xs vs ∧
  vs.length ≤ sizeLine ∧ ∀ p, H p = none → D.rt (.ref p) (upd H p (.tup vs))
theorem suite_ret {k : Nat} {p1 pos : Pos} (hx : XArgs X i Cs es xs) (a : Addr) (oe : Obj) (cls : Value) (d : Option Addr) (pn : List (Addr × Obj)) (z : Zc cls d oe) (f : ∃ vs, oe.data = .fields vs) :
    PSs (X.suite a ((a, oe) :: pn)) [.Return (some (.Tuple es k p1)) pos] (tsX Cs i xs a cls d) := ⟨fun pins s σ H D I ⟨C, dd, us, vs, e1, e2, e3, e4, e5, e6, e7, e8⟩ => by
  obtain ⟨t, pt, ht⟩ := hx.run a oe cls d pn C z f e1 e2
  exact (pss_one (ps_ret (pe_tup pt))).run pins s σ H D I (ht σ H _ dd us vs e5 e3 e4 e6 ⟨e7, e8⟩)⟩
end
/-- except c (as the name at slot): return (xs) -/
structure Hd where
  c : Nat
  slot : Option Nat
  xs : List Xp
def tryHs (sub : Nat → Nat → Bool) (c : Nat) (fs : List (Str × W)) (ρ : Rho) (S : Store) : List Hd → RF
  | [] => .exc c fs ρ S
  | h :: r => if sub c h.c = true then (match xpsW fs h.xs with
    | some ws => .ret (mkT ws) S
    | none => .bad) else tryHs sub c fs ρ S r
def fTry (sub : Nat → Nat → Bool) (b : FS) (hs : List Hd) : FS := fun ρ S => match b ρ S with
  | .exc c fs ρ1 S1 => tryHs sub c fs ρ1 S1 hs
  | r => r
/-- the classes that clause h takes -/
def Takers (ct : Nat → Option Addr) (sub : Nat → Nat → Bool) (h : Nat) (C : Addr) : Prop := ∃ c, ct c = some C ∧ sub c h = true
inductive HsOk (X : Cx) (ct : Nat → Option Addr) (sub : Nat → Nat → Bool) : List ExceptHandler → List Hd → List Cl → Prop
  | nil : HsOk X ct sub [] [] []
  | plain {x : Str} {cv : Value} {c : Nat} {xs : List Xp} {es : List Expr} {k : Nat} {p1 p2 np q : Pos} {hds : List ExceptHandler} {hs : List Hd} {l : List Cl} (hc : Names X x cv) (hsub : ∀ c' C, ct c' = some C → PySem.W.exmOne X.K (.ref C) cv = some (sub c' c))
      (hz : xs.length ≤ 1000) (hfl : xs.all Xp.flat = true) (hx : XArgs X none (Takers ct sub c) es xs) (r : HsOk X ct sub hds hs l) : HsOk X ct sub (.ExceptHandler (some (.Name x np)) none [.Return (some (.Tuple es k p1)) p2] q :: hds) (⟨c, none, xs⟩ :: hs) (⟨cv, none, tsX (Takers ct sub c) none xs⟩ :: l)
  | named {x y : Str} {i : Nat} {cv : Value} {c : Nat} {xs : List Xp} {es : List Expr} {k : Nat} {p1 p2 np q : Pos} {hds : List ExceptHandler} {hs : List Hd} {l : List Cl} (hc : Names X x cv) (hN : X.N.Nodup) (hi : X.N[i]? = some y) (hy : X.env.kindOf y = some .local) (hsub : ∀ c' C, ct c' = some C → PySem.W.exmOne X.K (.ref C) cv = some (sub c' c))
      (hz : xs.length ≤ 1000) (hfl : xs.all Xp.flat = true) (hx : XArgs X (some i) (Takers ct sub c) es xs) (r : HsOk X ct sub hds hs l) : HsOk X ct sub (.ExceptHandler (some (.Name x np)) (some y) [.Return (some (.Tuple es k p1)) p2] q :: hds) (⟨c, some i, xs⟩ :: hs) (⟨cv, some i, tsX (Takers ct sub c) (some i) xs⟩ :: l)
section
variable {X : Cx} {ct : Nat → Option Addr} {sub : Nat → Nat → Bool}
theorem HsOk.cls {cs : List ExceptHandler} {hs : List Hd} {l : List Cl} (h : HsOk X ct sub cs hs l) : ClsOk X cs l := by
  induction h with
  | nil => exact .nil
  | plain hc hsub hz hfl hx r ih => exact .plain hc (fun a oe cls d pn z f => suite_ret hx a oe cls d pn z f) ih
  | named hc hN hi hy hsub hz hfl hx r ih => exact .named hc hN hi hy (fun a oe cls d pn z f => suite_ret hx a oe cls d pn z f) ih
theorem try_key {E : EX} {Wout : WX} {D : Ends} {c : Nat} {fs : List (Str × W)} {ρ : Rho} {S : Store} {η : List Addr} {H : Hp} (hE : ∀ σ cls d H, E σ cls d H → Wout cls d σ H) {cs : List ExceptHandler} {hs : List Hd} {l : List Cl} (hh : HsOk X ct sub cs hs l) (h : FinS (gx X ct) E η H (tryHs sub c fs ρ S hs) D) :
    ∀ η' H' σ C d vs, Fu η H η' H' → Rp X.K η' H' S → ERep X.K η' H' ρ σ → ct c = some C → H' d = some (.xd vs) → RepF X.K η' H' fs vs → X.N.length ≤ σ.length → wMix X.K Wout D l (.ref C) (some d) σ H' := by
  intro η' H' σ C d vs f rp er hct hd hf hσ
  have body : ∀ {k : Hd} {i : Option Nat} {σ2 : L2.St} {a : Addr}, (match xpsW fs k.xs with | some ws => RF.ret (mkT ws) S | none => .bad) = .bad ∨ True → k.xs.length ≤ 1000 → k.xs.all Xp.flat = true → sub c k.c = true → FinS (gx X ct) E η H (match xpsW fs k.xs with | some ws => .ret (mkT ws) S | none => .bad) D → (∀ j, i = some j → σ2[j]? = some (some (.ref a))) →
      ∀ D2 : Ends, D2.rt = D.rt → tsX (Takers ct sub k.c) i k.xs a (.ref C) (some d) D2 σ2 H' := by
    intro k i σ2 a _ hz hfl hs1 h2 sl D2 hD2
    cases q : xpsW fs k.xs with
    | none => rw [q] at h2; exact h2.elim
    | some ws =>
      rw [q] at h2
      obtain ⟨us, p, r⟩ := xps_rep hf.1 hf.2 hfl q
      have lz : us.length ≤ sizeLine := by
        have e1 : k.xs.length = us.length := Paired.length p
        rw [sizeLine_eq]
        omega
      refine ⟨C, d, vs, us, rfl, ⟨c, hct, hs1⟩, rfl, hd, sl, p, lz, fun pp np => ?_⟩
      rw [hD2]
      exact h2 η' _ (.ref pp) (f.trans (fu_new np)) (rp.new np) (RepWs.mk (SqT.of upd_same) (RepWs.fu (fu_new np) _ _ r))
  induction hh with
  | nil => exact hE _ _ _ _ (h η' H' σ C d vs f rp er hct hd hf)
  | plain hc hsub hz hfl hx r ih =>
    refine ⟨_, hsub c C hct, fun e a na => ?_, fun e => ih ?_⟩
    · rw [tryHs, if_pos e] at h
      exact body (.inr trivial) hz hfl e h (fun j z => by cases z) D rfl
    · rw [tryHs, if_neg (by rw [e]; decide)] at h
      exact h
  | @named x y i cv c2 xs es k p1 p2 np q hds hs l hc hN hi hy hsub hz hfl hx r ih =>
    refine ⟨_, hsub c C hct, fun e a na => ?_, fun e => ih ?_⟩
    · rw [tryHs, if_pos e] at h
      refine body (i := some i) (.inr trivial) hz hfl e h (fun j z => ?_) _ rfl
      cases z
      exact List.getElem?_set_self (Nat.lt_of_lt_of_le (List.getElem?_eq_some_iff.mp hi).1 hσ)
    · rw [tryHs, if_neg (by rw [e]; decide)] at h
      exact h
end
end VI
set_option Elab.async false
set_option linter.all false
set_option maxRecDepth 100000
namespace VI
open PySem PySem.Spec PyProof.Rows L2

/-! try as a rule of functions -/
/-- n: how many slots the def has -/
def fTryN (n : Nat) (sub : Nat → Nat → Bool) (b : FS) (hs : List Hd) : FS := fun ρ S => match b ρ S with
  | .exc c fs ρ1 S1 => if n ≤ ρ1.length then tryHs sub c fs ρ1 S1 hs else .bad
  | r => r
theorem s_try {X : Cx} {ct : Nat → Option Addr} {E : EX} {Wout : WX} {sub : Nat → Nat → Bool} {body : List Stmt} {h0 : ExceptHandler} {hds : List ExceptHandler} {hs : List Hd} {l : List Cl} {b : FS} {pos : Pos} {n : Nat}
    (tk : Takes X Wout) (hE : ∀ σ cls d H, E σ cls d H → Wout cls d σ H) (hn : X.N.length = n)
    (hb : ∀ (W : WX) (pn : List (Addr × Obj)) (xe : Value → Shared → Prop), Takes (X.tr pn xe) W → PassesOwn (model X.prog X.w) X.A X.env xe → PSs (X.tr pn xe) body (tS (gx X ct) (WE W) b))
    (hh : HsOk X ct sub (h0 :: hds) hs l) (hst : X.stack = X.env :: X.outer := by rfl) (hf : X.env.frame = some X.env.locals := by rfl) : PS X (.Try body (h0 :: hds) [] [] pos) (tS (gx X ct) E (fTryN n sub b hs)) :=
  PSw (ps_try_mix (tb := fun W => tS (gx X ct) (WE W) b) hst hf tk hb hh.cls) fun D σ H ⟨η, ρ, S, rp, er, h⟩ => by
    refine ⟨η, ρ, S, rp, er, ?_⟩
    unfold fTryN at h
    cases q : b ρ S with
    | next ρ2 S2 => rw [q] at h; exact h
    | ret u S2 => rw [q] at h; exact h
    | brk ρ2 S2 => rw [q] at h; exact h
    | cnt ρ2 S2 => rw [q] at h; exact h
    | bad => rw [q] at h; exact h
    | exc c fs ρ1 S1 =>
      rw [q] at h
      have h2 : FinS (gx X ct) E η H (if n ≤ ρ1.length then tryHs sub c fs ρ1 S1 hs else .bad) D := h
      by_cases hl : n ≤ ρ1.length
      · rw [if_pos hl] at h2
        intro η' H' σ' C d vs f rp1 er1 hct hd hfs
        exact try_key hE hh h2 η' H' σ' C d vs f rp1 er1 hct hd hfs (by rw [hn, er1.1]; exact hl)
      · rw [if_neg hl] at h2
        exact h2.elim
end VI
set_option Elab.async false
set_option linter.all false
set_option maxRecDepth 100000
namespace VI
open PySem PySem.Spec PyProof.Rows L2

/-! a module with own exception classes: what its defs are told -/
/-- class number c: the name x, its fields fs; it may be raised -/
def KRaise (P : Program) (w : World) (K : PySem.W.Frag) (mg : Str → Option Value) (base : Heap) (ct : Nat → Option Addr) (c : Nat) (x : Str) (fs : List Str) : Prop := ∃ C : Addr, ct c = some C ∧ OwnX P w K mg base 1 x C fs
/-- class number c, the name x: what an except clause finds of it -/
def KTake (K : PySem.W.Frag) (mg : Str → Option Value) (ct : Nat → Option Addr) (sub : Nat → Nat → Bool) (c : Nat) (x : Str) : Prop := ∃ cv : Value, mg x = some cv ∧ ∀ c' C, ct c' = some C → PySem.W.exmOne K (.ref C) cv = some (sub c' c)
/-- the field f of what clause c takes -/
def KField (K : PySem.W.Frag) (ct : Nat → Option Addr) (sub : Nat → Nat → Bool) (c : Nat) (f : Str) : Prop := ∀ C, Takers ct sub c C → XfC K C ∧ PySem.W.findIn K (.ref C) f = some none
section
variable {P : Program} {w : World} {K : PySem.W.Frag} {mg : Str → Option Value} {base : Heap} {ct : Nat → Option Addr} {n : Nat} {x : Str} {st : Stmt} {N ps : List Str} {g : List W → Store → R W} {b : FS}
theorem room_two {A : Around} (h : 2 ≤ n) (r : Room n A) : Room 2 A := by
  have d := r.dp
  have u := r.un
  exact { r with dp := by omega, un := by omega }
theorem takes_none {X : Cx} : Takes X (fun _ _ _ _ => False) := fun u s' x => by
  obtain ⟨a, B, sI, pins, σ, H, cls, d, e, I, nb, up, sky, na, os, ag, z⟩ := x
  exact z.elim
theorem raise_E {X : Cx} {E : EX} {W0 : WX} {c : Nat} {fs : List Str} {e : Expr} {es : List Expr} {p pos pos2 : Pos} {fa : FA} (k : KRaise X.prog X.w X.K X.mg X.base ct c x fs) (hc : X.calm = true) (tk : Takes X W0) (hE : ∀ σ cls d H, E σ cls d H → W0 cls d σ H)
    (hr : Room 2 X.A) (hn : fs.length ≤ 1000) (ha : PA X (e :: es) (tA (gx X ct) E fa)) (hg : Gl X x := by rfl) (hdb : (x == ("__debug__" : Str)) = false := by decide) (he : starEach (e :: es) X.env = (false, eval e X.env) :: starEach es X.env := by rfl) (hpl : (backTo pos (starEach es X.env)).any (·.1) = false := by rfl) :
    PS X (.Raise (some (.Call (.Name x p) (e :: es) [] pos)) none pos2) (tS (gx X ct) E (fRaise c fs fa)) := by
  obtain ⟨C, hct, O⟩ := k
  exact s_raiseC hc tk hE hct O hr hn ha hg hdb he hpl
theorem calleeX_zero (D : DefAt K mg x st) (hB : Bnd x st ps) (h : ∀ ws S, g ws S = .bad) : CalleeC (L2.CX P w) P w K mg base ct n x ps g := by
  obtain ⟨f, fd, F, m⟩ := D
  refine ⟨f, fd, ⟨fun vs H Q E h => h.1, fun A outer s H args us vs Q E _ _ _ _ _ hh => ?_⟩, m, F.kp, F.bindsN hB⟩
  obtain ⟨_, η, S, ws, rp, rr, fin⟩ := hh
  rw [h] at fin
  exact fin.elim
theorem calleeX_succ (D : DefAt K mg x st) (hB : Bnd x st ps) (hS : FnScope N ps (defScope st)) (e : ∀ ws S, g ws S = if 2 ≤ n then runX N.length b ws S else .bad)
    (h : ∀ (f : Addr) (cdv : Value) (A : Around) (outer : List Env) (s : Shared) (H : Hp) (E : XK), 2 ≤ n → Room n (A.deeper (envOfC x (defScope st) s.heap.objs.size f cdv)) → A.guards = some [] → PSs (bodyE P w K mg base N x (defScope st) f cdv A outer s H E) (defBody st) (tS ⟨K, ct⟩ (fun _ => E) b)) :
    CalleeC (L2.CX P w) P w K mg base ct (n + 1) x ps g := by
  by_cases h2 : 2 ≤ n
  · obtain ⟨f, fd, F, m⟩ := id D
    obtain ⟨oc, od, dV, kV, doc, pm, an, cdv, cv, sl, rfl, lk, hcd, _, _⟩ := F.ex
    exact ⟨f, _, fnX_of lk hcd hS fun A outer s H E r gd => ⟨b, fun ws S _ => by rw [e, if_pos h2], h f cdv A outer s H E h2 r gd⟩, m, F.kp, F.bindsN hB⟩
  · exact calleeX_zero D hB fun ws S => by rw [e, if_neg h2]
end
/-! the clauses, as the generator writes them -/
section
variable {X : Cx} {ct : Nat → Option Addr} {sub : Nat → Nat → Bool}
theorem h_plain {x : Str} {c : Nat} {xs : List Xp} {es : List Expr} {k : Nat} {p1 p2 np q : Pos} {hds : List ExceptHandler} {hs : List Hd} (kt : KTake X.K X.mg ct sub c x) (hx : XArgs X none (Takers ct sub c) es xs) (r : ∃ l, HsOk X ct sub hds hs l) (hg : Gl X x := by rfl) (hdb : (x == ("__debug__" : Str)) = false := by decide)
    (hz : xs.length ≤ 1000 := by decide) (hfl : xs.all Xp.flat = true := by rfl) : ∃ l, HsOk X ct sub (.ExceptHandler (some (.Name x np)) none [.Return (some (.Tuple es k p1)) p2] q :: hds) (⟨c, none, xs⟩ :: hs) l := by
  obtain ⟨cv, m, h⟩ := kt
  obtain ⟨l, r⟩ := r
  exact ⟨_, .plain ⟨hg, hdb, .inl m⟩ h hz hfl hx r⟩
theorem h_named {x y : Str} {i c : Nat} {xs : List Xp} {es : List Expr} {k : Nat} {p1 p2 np q : Pos} {hds : List ExceptHandler} {hs : List Hd} (kt : KTake X.K X.mg ct sub c x) (hN : X.N.Nodup) (hx : XArgs X (some i) (Takers ct sub c) es xs) (r : ∃ l, HsOk X ct sub hds hs l) (hi : X.N[i]? = some y := by rfl) (hy : X.env.kindOf y = some .local := by rfl)
    (hg : Gl X x := by rfl) (hdb : (x == ("__debug__" : Str)) = false := by decide) (hz : xs.length ≤ 1000 := by decide) (hfl : xs.all Xp.flat = true := by rfl) : ∃ l, HsOk X ct sub (.ExceptHandler (some (.Name x np)) (some y) [.Return (some (.Tuple es k p1)) p2] q :: hds) (⟨c, some i, xs⟩ :: hs) l := by
  obtain ⟨cv, m, h⟩ := kt
  obtain ⟨l, r⟩ := r
  exact ⟨_, .named ⟨hg, hdb, .inl m⟩ hN hi hy h hz hfl hx r⟩
theorem h_nil : ∃ l, HsOk X ct sub [] [] l := ⟨[], .nil⟩
theorem try_E {E : EX} {Wout : WX} {body : List Stmt} {h0 : ExceptHandler} {hds : List ExceptHandler} {hs : List Hd} {b : FS} {pos : Pos} {n : Nat} (tk : Takes X Wout) (hE : ∀ σ cls d H, E σ cls d H → Wout cls d σ H)
    (hb : ∀ (W : WX) (pn : List (Addr × Obj)) (xe : Value → Shared → Prop), Takes (X.tr pn xe) W → PassesOwn (model X.prog X.w) X.A X.env xe → PSs (X.tr pn xe) body (tS (gx X ct) (WE W) b))
    (hh : ∃ l, HsOk X ct sub (h0 :: hds) hs l) (hn : X.N.length = n := by rfl) (hst : X.stack = X.env :: X.outer := by rfl) (hf : X.env.frame = some X.env.locals := by rfl) : PS X (.Try body (h0 :: hds) [] [] pos) (tS (gx X ct) E (fTryN n sub b hs)) := by
  obtain ⟨l, hh⟩ := hh
  exact s_try tk hE hn hb hh hst hf
end
end VI
set_option Elab.async false
set_option linter.all false
set_option maxRecDepth 100000
namespace VI
open PySem PySem.Spec PyProof.Rows L2

/-! what the head's run tells of a module's constants and classes -/
/-- a class over ValueError with an __init__ of its own -/
def oexB (K : PySem.W.Frag) (C : Addr) : Bool := (match K.lookup C with
  | some ⟨.type "type", _, .cls cd, sl⟩ => (match cd.mro, sl.toList with
    | .ref C' :: bm, [_, _, _, _, some (.builtin n), _] => C' == C && n == "ValueError.__new__" && cd.hasDict && !cd.hasDel && PySem.HandSPX.refsVE bm
    | _, _ => false)
  | _ => false) && (decide (PySem.W.findIn K (.ref C) "__setattr__" = some (some (.builtin "object.__setattr__"))) && (decide (PySem.W.subIn K (.ref C) (.type "BaseException") = some true) && (decide (PySem.W.typeIn K (.ref C) = some (.type "type")) && PySem.W.keepIn K (.ref C))))
theorem oexB_ok {K : PySem.W.Frag} {C : Addr} (h : oexB K C = true) : OexC K C := by
  obtain ⟨q, h⟩ := He.ba h
  obtain ⟨h2, h⟩ := He.ba h
  obtain ⟨h3, h⟩ := He.ba h
  obtain ⟨h4, h5⟩ := He.ba h
  refine ⟨?_, of_decide_eq_true h2, of_decide_eq_true h3, of_decide_eq_true h4, h5⟩
  split at q
  · rename_i dd cd sl ho
    split at q
    · rename_i C' bm k0 k1 k2 k3 n k5 hm hs
      simp only [Bool.and_eq_true, beq_iff_eq, Bool.not_eq_true'] at q
      obtain ⟨⟨⟨⟨rfl, rfl⟩, hdct⟩, hdel⟩, ht⟩ := q
      obtain ⟨nm, bs, mro, ns, qn, hd, sn, sub, ab, col, del⟩ := cd
      dsimp only at hm hdel hdct
      subst hm hdel hdct
      have hsl : sl = #[k0, k1, k2, k3, some (.builtin "ValueError.__new__"), k5] := by
        obtain ⟨l⟩ := sl
        simp only at hs
        rw [hs]
      subst hsl
      exact ⟨_, _, _, _, _, _, _, _, _, _, _, _, _, _, _, ho, ht⟩
    · cases q
  · cases q
/-- what a module's name stands for -/
def mgAt (K : PySem.W.Frag) (x : Str) : Option Value := match PySem.W.nsIn K mainGlobals x with
  | some (some v) => some v
  | _ => none
mutual
/-- d stands for u, as far as K tells -/
def repB (K : PySem.W.Frag) : PyData → Value → Bool
  | .none, .none => true
  | .bool b, .bool c => b == c
  | .int i, .int j _ => decide (i = j)
  | .str x, .str y _ => decide (x = y)
  | .tuple ds, .ref a => (match K.lookup a with
    | some ⟨.type "tuple", _, .seq its _, _⟩ => decide (its.size ≤ sizeLine) && repsB K ds its.toList
    | _ => false)
  | _, _ => false
def repsB (K : PySem.W.Frag) : List PyData → List Value → Bool
  | [], [] => true
  | d :: ds, u :: us => repB K d u && repsB K ds us
  | _, _ => false
end
mutual
theorem repB_ok {K : PySem.W.Frag} : ∀ (d : PyData) (u : Value), repB K d u = true → ∃ v, RelV v u ∧ ∀ η H, RepD K η H d v
  | .none, u, h => by
    cases u <;> first | exact ⟨.non, rfl, fun _ _ => .none⟩ | (simp [repB] at h)
  | .bool b, u, h => by
    cases u with
    | bool c => exact ⟨.bl b, by rw [repB, beq_iff_eq] at h; rw [h]; rfl, fun _ _ => .bool b⟩
    | _ => simp [repB] at h
  | .int i, u, h => by
    cases u with
    | int j t => exact ⟨.int i, by rw [repB, decide_eq_true_eq] at h; exact ⟨t, by rw [h]⟩, fun _ _ => .int i⟩
    | _ => simp [repB] at h
  | .str x, u, h => by
    cases u with
    | str y t => exact ⟨.str x, by rw [repB, decide_eq_true_eq] at h; exact ⟨t, by rw [h]⟩, fun _ _ => .str x⟩
    | _ => simp [repB] at h
  | .tuple ds, u, h => by
    cases u with
    | ref a =>
      rw [repB] at h
      split at h
      · rename_i dd its n sl ho
        obtain ⟨h1, h2⟩ := He.ba h
        obtain ⟨vs, r, rd⟩ := repsB_ok ds _ h2
        exact ⟨.ref a, rfl, fun η H => .tuple (.inr ⟨_, its, n, ho, rfl, rfl, of_decide_eq_true h1, r⟩) (rd η H)⟩
      · cases h
    | _ => simp [repB] at h
  | .list _, u, h => by cases u <;> simp [repB] at h
theorem repsB_ok {K : PySem.W.Frag} : ∀ (ds : List PyData) (us : List Value), repsB K ds us = true → ∃ vs, Vals vs us ∧ ∀ η H, RepDs K η H ds vs
  | [], [], _ => ⟨[], .nil, fun _ _ => .nil⟩
  | [], _ :: _, h => by simp [repsB] at h
  | _ :: _, [], h => by simp [repsB] at h
  | d :: ds, u :: us, h => by
    rw [repsB] at h
    obtain ⟨h1, h2⟩ := He.ba h
    obtain ⟨v, r, rd⟩ := repB_ok d u h1
    obtain ⟨vs, r2, rd2⟩ := repsB_ok ds us h2
    exact ⟨v :: vs, .cons r r2, fun η H => .cons (rd η H) (rd2 η H)⟩
end
def conB (K : PySem.W.Frag) (x : Str) (d : PyData) : Bool := match PySem.W.nsIn K mainGlobals x with
  | some (some u) => repB K d u
  | _ => false
theorem conB_ok {K : PySem.W.Frag} {h : Heap} {mg : Str → Option Value} {x : Str} {d : PyData} (X : K.In h) (G : h.Ns mainGlobals mg) (c : conB K x d = true) : KCon K mg x d := by
  unfold conB at c
  split at c
  · rename_i u e
    obtain ⟨v, r, rd⟩ := repB_ok d u c
    exact ⟨v, u, PySem.W.mg_of X G e, r, rd⟩
  · cases c
/-- the hook of the library, and one's own look at K -/
def hookV (n : Nat) (fa : List He.Fa) (fn : List He.DefD) (ex : PySem.W.Frag → Bool) : PySem.W.Hook where
  α := He.AlD × Bool
  obs := fun s => (He.obsDG n fa fn s.heap.get?, ex (He.frG s.heap.get? (He.asD s.heap.get? n)))
  val := fun _ => (He.valD fn, true)
  says := fun _ h => ∃ K : PySem.W.Frag, K.In h ∧ He.SaysD fa fn K ∧ ex K = true
  of := fun _ _ e => ⟨_, He.frG_in, congrArg (fun z : He.AlD × Bool => z.1) e, congrArg (fun z : He.AlD × Bool => z.2) e⟩
  keeps := fun _ _ _ ⟨K, hK, c⟩ k => ⟨K, PySem.W.Frag.In.keeps hK k, c⟩
def obsV (n : Nat) (fa : List He.Fa) (fn : List He.DefD) (ex : PySem.W.Frag → Bool) (g : Addr → Option Obj) : He.AlD × Bool := (He.obsDG n fa fn g, ex (He.frG g (He.asD g n)))
theorem obsV_eq {n : Nat} {fa : List He.Fa} {fn : List He.DefD} {ex : PySem.W.Frag → Bool} {g : Addr → Option Obj} {s : Shared} (h : ∀ a, g a = s.heap.get? a) : obsV n fa fn ex g = (hookV n fa fn ex).obs s := by
  have e : g = s.heap.get? := funext h
  rw [e] <;> rfl
end VI
set_option Elab.async false
set_option linter.all false
set_option maxRecDepth 100000
namespace VI
open PySem PySem.Spec PyProof.Rows L2

/-! from the head's facts to what the defs are told -/
theorem all_at {l : List Bool} (h : l.all id = true) (i : Nat) {b : Bool} (e : l[i]? = some b := by rfl) : b = true := List.all_eq_true.mp h b (List.mem_of_getElem? e)
section
variable {K : PySem.W.Frag} {h : Heap} {mg : Str → Option Value} {fas : List He.Fa} {fns : List He.DefD} {P : Program} {w : World} {base : Heap}
theorem defAt_of {x : Str} {st : Stmt} (X : K.In h) (G : h.Ns mainGlobals mg) (c : (He.Fa.glo x).ok K = true) (F : ∃ fd, FunD K x x (defArgs st) (defBody st) (defScope st) [] [] (He.ga K x) fd) : DefAt K mg x st := by
  obtain ⟨fd, F⟩ := F
  exact ⟨_, fd, F, He.glo_ok X G c⟩
theorem ownX_one {x qual f1 p1 : Str} {pr : Arguments} {body : List Stmt} {sc : Scope} (X : K.In h) (G : h.Ns mainGlobals mg) (c : (He.Fa.glo x).ok K = true) (T : oexB K (He.ga K x) = true) (m : (He.Fa.meth x "__init__").ok K = true) (ty : decide (PySem.W.typeIn K (.ref (He.ma K (He.ga K x) "__init__")) = some (.type "function")) = true)
    (n1 : (He.Fa.noat x f1).ok K = true) (F : ∃ fd, FunD K "__init__" qual pr body sc [] [] (He.ma K (He.ga K x) "__init__") fd) (hS : FnScope ["self", p1] ["self", p1] sc)
    (hB : ∀ (kV doc pm : Value) (an : Option Addr) (cdv ct : Value) (us : List Value), us.length = 2 → bindArgs (PySem.W.fnOf "__init__" qual pr body sc .none kV doc pm an cdv ct) ⟨us, []⟩ = pure ((["self", p1] : List Str).zip us))
    (hb : ∀ (cdv : Value) (A : Around) (outer : List Env) (s : Shared) (H : Hp) (E : XK), PSs (cxOf CX0 P w K mg base ["self", p1] qual sc (He.ma K (He.ga K x) "__init__") cdv A outer s H E) body (tOst K f1 (tVar 0) (tVar 1))) : OwnX P w K mg base 1 x (He.ga K x) [f1] := by
  obtain ⟨fd, F⟩ := F
  exact ⟨He.glo_ok X G c, oexB_ok T, _, fd, _, (He.meth_ok m).at_, of_decide_eq_true ty, init_one (k := 0) F hS (oexB_ok T) (He.noat_ok n1) hb, F.bindsN hB⟩
theorem ownX_two {x qual f1 f2 p1 p2 : Str} {pr : Arguments} {body : List Stmt} {sc : Scope} (X : K.In h) (G : h.Ns mainGlobals mg) (c : (He.Fa.glo x).ok K = true) (T : oexB K (He.ga K x) = true) (m : (He.Fa.meth x "__init__").ok K = true) (ty : decide (PySem.W.typeIn K (.ref (He.ma K (He.ga K x) "__init__")) = some (.type "function")) = true)
    (n1 : (He.Fa.noat x f1).ok K = true) (n2 : (He.Fa.noat x f2).ok K = true) (F : ∃ fd, FunD K "__init__" qual pr body sc [] [] (He.ma K (He.ga K x) "__init__") fd) (hS : FnScope ["self", p1, p2] ["self", p1, p2] sc)
    (hB : ∀ (kV doc pm : Value) (an : Option Addr) (cdv ct : Value) (us : List Value), us.length = 3 → bindArgs (PySem.W.fnOf "__init__" qual pr body sc .none kV doc pm an cdv ct) ⟨us, []⟩ = pure ((["self", p1, p2] : List Str).zip us))
    (hb : ∀ (cdv : Value) (A : Around) (outer : List Env) (s : Shared) (H : Hp) (E : XK), PSs (cxOf CX0 P w K mg base ["self", p1, p2] qual sc (He.ma K (He.ga K x) "__init__") cdv A outer s H E) body (tSeq (tOst K f1 (tVar 0) (tVar 1)) (tOst K f2 (tVar 0) (tVar 2)))) : OwnX P w K mg base 1 x (He.ga K x) [f1, f2] := by
  obtain ⟨fd, F⟩ := F
  exact ⟨He.glo_ok X G c, oexB_ok T, _, fd, _, (He.meth_ok m).at_, of_decide_eq_true ty, init_two (k := 0) F hS (oexB_ok T) (He.noat_ok n1) (He.noat_ok n2) hb, F.bindsN hB⟩
end
end VI
set_option Elab.async false
set_option linter.all false
set_option maxRecDepth 100000
namespace VI
open PySem PySem.Spec PyProof.Rows L2

/-! the end, the classes' numbers told by K -/
section
variable {k : Nat} {x : Str} {g : List W → Store → R W}
theorem walk_K {l : PySem.W.OpenLaw} {n : Nat} {q : Program} {loose : List Str} {XP : (Str → Option Value) → Heap → Prop} {YP : World → Heap → Prop} {d : DefRec}
    (hn : l.most = some n) (hn2 : n ≤ sizeLine) (hdf : d.params.defaults = []) (hr : Room k callerA)
    (F : ∀ (w : World) (mg : Str → Option Value) (fa : Addr) (h : Heap), YP w h → h.Ns mainGlobals mg → mg d.name = some (.ref fa) →
      ∃ (K : PySem.W.Frag) (ct : Nat → Option Addr) (fd : FuncData), K.In h ∧ (∀ (s : Shared) (u : Value), BindsTo s fd ⟨[u], []⟩ [(x, u)]) ∧
        ∀ base : Heap, K.In base → base.Ns mainGlobals mg → FnG l.prog w K mg base CX0 k fa fd [x] (spG ⟨K, ct⟩ 1 g))
    (good : ∀ ns : List Int, ns.length ≤ n → (∀ z ∈ ns, Builtin.Int.intBits z ≤ 1048576) → ∃ S', g [scriptW ns] [] = .ok (.d (.bool true)) S') :
    PySem.W.WalkO q loose XP YP l.row.toRowW d [] (fun f vs => PySem.call f vs) :=
  Att.attach_callB hn hdf fun w s₀ s1 mg mb fa o pm cd doc a vs ns G Y ho hd hcd hmg hobj hints hlen hbits hg => by
    obtain ⟨K, ct, fd, KX, hb, hF⟩ := F w mg fa _ Y G.T.g hmg
    exact ask KX G.T.g G.T.b G.T.builtins G.T.nolimit hg hobj hints (Nat.le_trans hlen hn2) hr hF hb (good ns hlen hbits)
/-- the def that is the law, by its body -/
theorem law_of {P : Program} {w : World} {K : PySem.W.Frag} {mg : Str → Option Value} {ct : Nat → Option Addr} {nm : Str} {st : Stmt} {fa : Addr} {N : List Str} {n : Nat} {b : FS} (D : DefAt K mg nm st) (hB : Bnd nm st [x]) (hmg : mg nm = some (.ref fa)) (hS : FnScope N [x] (defScope st)) (e : ∀ ws S, g ws S = runB N.length b ws S)
    (h : ∀ (base : Heap) (f : Addr) (cdv : Value) (A : Around) (outer : List Env) (s : Shared) (H : Hp) (E : XK), Room n (A.deeper (envOfC nm (defScope st) s.heap.objs.size f cdv)) → A.guards = some [] → PSs (bodyX P w K mg base N nm (defScope st) f cdv A outer s H E) (defBody st) (tS ⟨K, ct⟩ NX b)) :
    ∃ fd : FuncData, (∀ (s : Shared) (u : Value), BindsTo s fd ⟨[u], []⟩ [(x, u)]) ∧ ∀ base : Heap, FnG P w K mg base CX0 (n + 1) fa fd [x] (spG ⟨K, ct⟩ 1 g) := by
  obtain ⟨f, fd, F, m⟩ := D
  obtain rfl : f = fa := by
    have e := m.symm.trans hmg
    cases e
    rfl
  have b := FunD.bindsA (ps := [x]) F hB
  exact ⟨fd, fun s u => b s [u] rfl, fun base => FunD.okG F hS fun cdv A outer s H E r gd => ⟨_, fun ws S _ => e ws S, h base f cdv A outer s H E r gd⟩⟩
end
end VI
set_option Elab.async false
set_option linter.all false
set_option maxRecDepth 100000
namespace VI
open PySem PySem.Spec PyProof.Rows L2

/-! int(x), x a text too -/
def gIntA (ws : List W) (S : Store) : O := match ws with
  | [.d (.str a)] => match PySem.intText? a with
    | some n => if a.length ≤ 640 then some (.d (.int n), S) else none
    | none => none
  | ws => gInt ws S
theorem c_intA {X : Cx} {ct : Nat → Option Addr} : CallR X (.type "int") (SimL X ct gIntA) := CallR.fit (CallR.or (c_int (X := X) (ct := ct)) call_int_str) fun xs H Q ⟨η, S, ws, rp, rr, q⟩ => by
  unfold gIntA at q
  split at q
  · rename_i a
    obtain ⟨v, rfl, r⟩ := repWs1 rr
    cases e : PySem.intText? a with
    | none => rw [e] at q; exact q.elim
    | some n =>
      rw [e] at q
      have q2 : FinO (gx X ct) η H (if a.length ≤ 640 then some (.d (.int n), S) else none) Q := q
      by_cases hl : a.length ≤ 640
      · rw [if_pos hl] at q2
        cases r with | d r => cases r; exact .inr ⟨a, n, rfl, e, hl, same_val rp (.d (.int _)) q2⟩
      · rw [if_neg hl] at q2
        exact q2.elim
  · exact .inl ⟨η, S, _, rp, rr, q⟩
end VI
set_option Elab.async false
set_option linter.all false
set_option maxRecDepth 100000
namespace VI
open PySem PySem.Spec PyProof.Rows L2

/-! dicts that are only handed on -/
section
variable {X : Cx} {ct : Nat → Option Addr} {E : EX}
theorem i_dct0 {pos : Pos} : PE X (.Dict [] [] pos) (tF (gx X ct) E (fC (.dict []))) := PEw pe_dnewK fun σ H Q ⟨η, ρ, S, rp, er, h⟩ p hp =>
  h η _ _ (fu_new hp) (rp.new hp) (.d (.dct upd_same (rp.notin hp)))
theorem i_dct1 {i j : Int} {k1 k2 : Nat} {pos p1 p2 : Pos} : PE X (.Dict [some (.Constant (.int i) k1 p1)] [.Constant (.int j) k2 p2] pos) (tF (gx X ct) E (fC (.dict []))) :=
  PEw (pe_disp (pps_cons pe_int pe_int pps_nil) rfl rfl (by simp) (by simp)) fun σ H Q ⟨η, ρ, S, rp, er, h⟩ p hp => by
    refine ⟨upd_same, [(.inl i, .int j)], rfl, by simp, ?_⟩
    rw [upd_upd]
    exact h η _ _ (fu_new hp) (rp.new hp) (.d (.dct upd_same (rp.notin hp)))

/-! an own exception made, and handed on -/
def spNo (C : Addr) : Sp := fun vs H Q _ => ∃ a, vs = [.ref a] ∧ H a = some (exo a C none) ∧ Q .non H
structure OwnN (P : Program) (w : World) (K : PySem.W.Frag) (mg : Str → Option Value) (base : Heap) (k : Nat) (x : Str) (C : Addr) : Prop where
  at_ : mg x = some (.ref C)
  T : OexC K C
  init : ∃ (fI : Addr) (fd : FuncData) (ps : List Str), PySem.W.findIn K (.ref C) "__init__" = some (some (.ref fI)) ∧ PySem.W.typeIn K (.ref fI) = some (.type "function") ∧ FnOk P w K mg base CX0 k fI fd ps (spNo C) ∧ Binds K fd ps []
  ot : OwnT K C
def KMake (P : Program) (w : World) (K : PySem.W.Frag) (mg : Str → Option Value) (base : Heap) (x : Str) : Prop := ∃ C, OwnN P w K mg base 1 x C
theorem pe_own0 {k : Nat} {x : Str} {C : Addr} {p pos : Pos} (O : OwnN X.prog X.w X.K X.mg X.base k x C) (hr : Room (k + 1) X.A) (hg : Gl X x) (hdb : (x == ("__debug__" : Str)) = false := by decide) :
    PE X (.Call (.Name x p) [] [] pos) (fun σ H Q => ∀ a, H a = none → Q (.ref a) (upd H a (exo a C none))) := by
  obtain ⟨m, T, ⟨fI, fd, ps, iC, tI, F1, hb⟩, ot⟩ := O
  refine ⟨fun pins s σ H Q I h => ?_⟩
  obtain ⟨nm, q, N, bs, bm, sn, sub, ab, col, dd, k0, k1, k2, k3, k5, hC, hbm⟩ := T.cls
  refine wpAny_Call_Name_kw (ld_glob I hg m ?_ hdb)
  refine PySem.W.callWith_K0 I.kIn T.kC ?_
  show wpAny _ _ (call (.ref C) []) _ _ _
  obtain ⟨hp, g, dr, tk, os⟩ := s
  have hsz : hp.objs.size ≤ hp.objs.size + 1 := Nat.le_succ _
  have hn : H (hp.objs.size + 1) = none := I.hok.fresh hsz
  have kk : ∀ b o, hp.get? b = some o → ((hp.push (PySem.W.kdv_tup [])).push (PySem.HandSPX.excO C hp.objs.size)).get? b = some o := fun b o e => Heap.get?_push_of_some _ (Heap.get?_push_of_some _ e)
  have hget : ((hp.push (PySem.W.kdv_tup [])).push (PySem.HandSPX.excO C hp.objs.size)).get? (hp.objs.size + 1) = some (PySem.HandSPX.excO C hp.objs.size) := by heap_get
  have I2 : Inv X pins σ (upd H (hp.objs.size + 1) (exo (hp.objs.size + 1) C none)) ⟨(hp.push (PySem.W.kdv_tup [])).push (PySem.HandSPX.excO C hp.objs.size), g, dr, tk, os⟩ :=
    I.laid (t' := tk) (a := hp.objs.size + 1) (o := exo (hp.objs.size + 1) C none) (h' := (hp.push (PySem.W.kdv_tup [])).push (PySem.HandSPX.excO C hp.objs.size)) kk hsz (exo_ok hget)
  have r2 : Vals [V.ref (hp.objs.size + 1)] [Value.ref (hp.objs.size + 1)] := .cons rfl .nil
  let Q2 : VK := fun v H' => v = .non ∧ Q (.ref (hp.objs.size + 1)) H'
  have hq : spNo C [V.ref (hp.objs.size + 1)] (upd H (hp.objs.size + 1) (exo (hp.objs.size + 1) C none)) Q2 (fun _ _ _ => False) := ⟨_, rfl, upd_same, rfl, h _ hn⟩
  have hl : ([Value.ref (hp.objs.size + 1)] ++ []).length = ps.length := by
    have e := F1.len _ _ _ _ hq
    simpa using e
  have bnd := hb _ [Value.ref (hp.objs.size + 1)] I2.kIn hl
  rw [List.append_nil] at bnd
  refine wpAny_call (PySem.HandSPX.call_own F.excBase_ValueError (fun Y => PySem.HandSPX.refsVE_contains Y bm hbm) (I.kIn _ _ hC) (PySem.W.looks_findIn I.kIn iC) (fun self => PySem.W.bind_fn I.kIn self tI) (Nat.zero_le _)
    (codeAny_mono (F1.run _ X.stack _ _ ⟨[Value.ref (hp.objs.size + 1)], []⟩ [Value.ref (hp.objs.size + 1)] _ _ (fun _ _ _ => False) (hr.make C [] []) (I2.env0.make C [] []) bnd r2 hq) fun r s' hq' => ?_))
  cases r with
  | error er => exact pass0 pins σ _ _ er s' I2 hq'
  | ok fl =>
    cases fl with
    | ret u =>
      obtain ⟨v, H2, I3, rv, ev, q2⟩ := I2.after hq'
      subst ev
      exact ⟨rv, .ref (hp.objs.size + 1), H2, I3, rfl, q2⟩
    | next => exact False.elim hq'
    | brk => exact False.elim hq'
    | cont => exact False.elim hq'
theorem i_own0 {x : Str} {p pos : Pos} (O : KMake X.prog X.w X.K X.mg X.base x) (hr : Room 2 X.A) (hg : Gl X x := by rfl) (hdb : (x == ("__debug__" : Str)) = false := by decide) : PE X (.Call (.Name x p) [] [] pos) (tF (gx X ct) E (fC (.dict [(.none, .none)]))) := by
  obtain ⟨C, O⟩ := O
  exact PEw (pe_own0 O hr hg hdb) fun σ H Q ⟨η, ρ, S, rp, er, h⟩ a ha => h η _ _ (fu_new ha) (rp.new ha) (.d (.own upd_same (rp.notin ha) O.ot))

/-! isinstance of these too -/
def gIsiA (T : String) (w : W) (S : Store) : O := match w with
  | .d (.dict []) => some (.d (.bool (isT "dict" T)), S)
  | .d (.dict _) => some (.d (.bool false), S)
  | w => gIsi T w S
theorem call_isiO {T : String} (hT : T ∈ tys) : CallR X (.builtin "isinstance") (fun xs H Q => ∃ a C, xs = [.ref a, .ty T] ∧ H a = some (exo a C none) ∧ OwnT X.K C ∧ Q (.bl false) H) := by
  intro pins s σ H xs us Q I r h
  obtain ⟨a, C, rfl, ha, ot, q⟩ := h
  obtain ⟨u1, u2, rfl, r1, r2⟩ := vals2 r
  cases (show u1 = Value.ref a from r1)
  cases (show u2 = Value.type T from r2)
  obtain ⟨t1, hget⟩ := exo_at I.hok ha
  have C1 := ot.exc
  exact PySem.W.kia_one (PySem.W.handS_kitx_exc C1.hg C1.hk C1.hs C1.hd C1.ha C1.hn C1.ht C1.hm) I.kIn ⟨hget, rfl, rfl, trivial⟩ (ot.not T hT) (fun z => nomatch z) fun tk => ⟨.bl false, H, I.kept (t' := tk) fun _ _ z => z, rfl, q⟩
theorem i_isiA (T : String) {x : Str} {e : Expr} {p p2 pos : Pos} {f : FE} (hT : T ∈ tys) (hg : Gl X "isinstance") (hm : X.mg "isinstance" = none) (hx : Gl X x) (hmx : X.mg x = none) (hv : bootBuiltins x = some (.type T)) (he : PE X e (tF (gx X ct) E f)) (hn : x ≠ "__name__" := by decide)
    (hd : (x == ("__debug__" : Str)) = false := by decide) (hs : starEach [e, .Name x p2] X.env = (false, eval e X.env) :: starEach [.Name x p2] X.env := by rfl) (hs2 : starEach [.Name x p2] X.env = (false, eval (.Name x p2) X.env) :: starEach [] X.env := by rfl) (hpl : (backTo pos (starEach [.Name x p2] X.env)).any (·.1) = false := by rfl)
    (hb : bootBuiltins "isinstance" = some (.builtin "isinstance") := by decide +kernel) : PE X (.Call (.Name "isinstance" p) [e, .Name x p2] [] pos) (tF (gx X ct) E (f1 (gIsiA T) f)) :=
  PEw (pe_callB (CallR.or call_isi (call_isiO hT)) hg hm hb (pa_cons he (pa_cons (pe_bltn (v := .ty T) hx hmx hv rfl hn hd) pa_nil hs2) hs) (by decide) (by decide) hs hpl) fun σ H Q ⟨η, ρ, S, rp, er, h⟩ =>
    ⟨η, ρ, S, rp, er, FinR.mono (FinR.bind (rel := relW (gx X ct)) h) fun v H1 ⟨η1, w, S1, f1, rp1, r1, h1⟩ => by
      have h2 : FinP (gx X ct) (E σ) η1 H1 (lift (gIsiA T w S1)) Q := h1
      unfold gIsiA at h2
      split at h2
      · cases r1 with
        | d r1 =>
          cases r1 with
          | dct g1 g2 => exact .inl ⟨_, .ty T, .type "dict", .type T, isT "dict" T, rfl, .ty T, .base (.dK g1), kit_ty (by decide) hT, h2 η1 H1 _ (Fu.refl _ _) rp1 (.d (.bool _))⟩
      · rename_i hne
        cases r1 with
        | d r1 =>
          cases r1 with
          | dct g1 g2 => exact absurd rfl hne
          | own g1 g2 g3 => exact .inr ⟨_, _, rfl, g1, g3, h2 η1 H1 _ (Fu.refl _ _) rp1 (.d (.bool _))⟩
      · cases q : tyW w S1 with
        | none =>
          unfold gIsi at h2
          rw [q] at h2
          exact h2.elim
        | some t =>
          unfold gIsi at h2
          rw [q] at h2
          obtain ⟨ty, ht⟩ := tyW_ok q rp1 r1
          exact .inl ⟨v, .ty T, .type t, .type T, isT t T, rfl, .ty T, ty, kit_ty ht hT, h2 η1 H1 _ (Fu.refl _ _) rp1 (.d (.bool _))⟩⟩

/-! tuple(text) -/
def sigD (z : Str) : List PyData := z.cps.toList.map fun c => PyData.str ⟨#[c]⟩
def gTupleA (ws : List W) (S : Store) : O := match ws with
  | [.d (.str z)] => if z.length ≤ lim then some (.d (.tuple (sigD z)), S) else none
  | ws => gTuple ws S
theorem call_tuple_strX (hc : X.calm = true) : CallR X (.type "tuple") (fun xs H Q => ∃ z, xs = [.str z] ∧ z.length ≤ sizeLine ∧ ∀ l, H l = none → Q (.ref l) (upd H l (.tup (z.cps.toList.map fun c => V.str ⟨#[c]⟩)))) := by
  intro pins s σ H xs us Q I r h
  obtain ⟨z, rfl, hz, h⟩ := h
  obtain ⟨u, rfl, rx⟩ := vals1 r
  obtain ⟨t, rfl⟩ := (show ∃ t, u = Value.str z t from rx)
  refine call_tuple_str (hsz := hz) (I.ok.hd hc) z t fun h' tk acc kp it => ?_
  have I1 : Inv X pins σ H { s with heap := h', toks := tk } := I.kept (t' := tk) kp
  have rv : Vals (z.cps.toList.map fun c => V.str ⟨#[c]⟩) acc.toList := by
    refine vals_of_idx _ _ (by rw [List.length_map, Array.length_toList, Array.length_toList]; exact it.1) fun j v hv => ?_
    obtain ⟨c, u, hc, rfl⟩ := it.2 j v (by simpa using hv)
    exact ⟨.str ⟨#[c]⟩, by simp [hc], u, rfl⟩
  refine ⟨.ref h'.objs.size, _, I1.laid (a := h'.objs.size) (o := .tup (z.cps.toList.map fun c => V.str ⟨#[c]⟩)) (t' := tk) (fun b o e => Heap.get?_push_of_some _ e) (Nat.le_refl _) ⟨by rw [List.length_map, Array.length_toList]; exact hz, acc.toList, rv, ⟨_, Heap.get?_push_size _ rfl, rfl, 0, by simp⟩⟩, rfl, h _ (I1.hok.fresh (Nat.le_refl _))⟩
theorem sig_rep {K : PySem.W.Frag} {η : List Addr} {H : Hp} : ∀ l : List Nat, RepDs K η H (l.map fun c => PyData.str ⟨#[c]⟩) (l.map fun c => V.str ⟨#[c]⟩)
  | [] => .nil
  | c :: l => .cons (.str _) (sig_rep l)
theorem c_tupleA (hc : X.calm = true := by rfl) : CallR X (.type "tuple") (SimL X ct gTupleA) := CallR.fit (CallR.or c_tuple (call_tuple_strX hc)) fun xs H Q ⟨η, S, ws, rp, rr, q⟩ => by
  unfold gTupleA at q
  split at q
  · rename_i z
    obtain ⟨v, rfl, r⟩ := repWs1 rr
    split at q
    · rename_i hz
      cases r with | d r => cases r; exact .inr ⟨z, rfl, lim_ok hz, new_tup rp (sig_rep _) q⟩
    · exact q.elim
  · exact .inl ⟨η, S, _, rp, rr, q⟩

/-! a text so many times -/
def mulOk (x : Str) (n : Int) : Bool := decide (1 < n) && decide (n ≤ 1000) && decide (x.length * n.toNat ≤ 1000)
theorem mulOk_ok {x : Str} {n : Int} (h : mulOk x n = true) : MulOk x n := by
  unfold mulOk at h
  simp only [Bool.and_eq_true, decide_eq_true_eq] at h
  obtain ⟨⟨h1, h2⟩, h3⟩ := h
  have hn : n = (n.toNat : Int) := (Int.toNat_of_nonneg (by omega)).symm
  have hx : x.length ≤ 1000 := by
    refine Nat.le_trans ?_ h3
    exact Nat.le_mul_of_pos_right _ (by omega)
  refine ⟨by simp only [Bool.or_eq_false_iff, decide_eq_false_iff_not]; omega, fun _ _ => ?_, fun _ _ => ?_⟩
  · have : 1000 ≤ ((2 : Int) ^ 63 - 1) / n := Int.le_ediv_of_mul_le (by omega) (by
      have : (2 : Int) ^ 63 - 1 = 9223372036854775807 := by decide
      rw [this]
      omega)
    omega
  · unfold Builtin.Str.tooLong
    simp only [decide_eq_false_iff_not]
    have := sizeLine_eq
    omega
def gMulT (a b : W) (S : Store) : O := match a, b with
  | .d (.str x), .d (.int n) => if mulOk x n = true then some (.d (.str (Txt.mul x n)), S) else none
  | _, _ => none
def gMulA (a b : W) (S : Store) : O := match gMulT a b S with
  | some o => some o
  | none => gMul a b S
theorem op_mulT : OpR X (binaryOp .Mult) (fun x y H Q => ∃ z n, x = .str z ∧ y = .int n ∧ MulOk z n ∧ Q (.str (Txt.mul z n)) H) := by
  intro pins s σ H x y u v Q I rx ry h
  obtain ⟨z, n, rfl, rfl, hm, q⟩ := h
  obtain ⟨t, rfl⟩ := (show ∃ t, u = Value.str z t from rx)
  obtain ⟨t2, rfl⟩ := (show ∃ t, v = Value.int n t from ry)
  exact SB.mul hm fun t' k => ⟨.str _, H, I.tok k, ⟨_, rfl⟩, q⟩
theorem sim_mulT : OpR X (binaryOp .Mult) (Sim2 X ct gMulT) := OpR.fit op_mulT fun x y H Q ⟨η, S, wx, wy, rp, rx, ry, h⟩ => by
  unfold gMulT at h
  split at h
  · split at h
    · rename_i hm
      cases rx with
      | d rx =>
        cases ry with
        | d ry =>
          cases rx
          cases ry
          exact ⟨_, _, rfl, rfl, mulOk_ok hm, same_val rp (.d (.str _)) h⟩
    · exact h.elim
  · exact h.elim
theorem sim_mulA : OpR X (binaryOp .Mult) (Sim2 X ct gMulA) := OpR.orElse sim_mulT sim_mul

/-! list + list, to be changed later -/
def gAddL (a b : W) (S : Store) : O := match asL a S, asL b S with
  | some xs, some ys => if xs.length + ys.length ≤ lim then some (.loc S.length, S ++ [.lst (xs ++ ys)]) else none
  | _, _ => none
theorem sim_addL : OpR X (binaryOp .Add) (Sim2 X ct gAddL) := OpR.fit op_cat fun x y H Q ⟨η, S, wx, wy, rp, rx, ry, h⟩ => by
  unfold gAddL at h
  split at h
  · rename_i xs ys e1 e2
    obtain ⟨a, vs, rfl, h1, h2⟩ := asL_ok e1 rp rx
    obtain ⟨b, us, rfl, h3, h4⟩ := asL_ok e2 rp ry
    split at h
    · rename_i hl
      exact ⟨a, b, vs, us, rfl, rfl, h1, h3, lim_ok (by rw [← h2.length, ← h4.length]; exact hl), new_live rp (h2.append h4) h⟩
    · exact h.elim
  · exact h.elim

/-! a call where something may be raised, its live objects going on -/
variable {n k : Nat} {CX : CXT} {x : Str} {ps : List Str} {g : List W → Store → R W} {p pos : Pos} {e : Expr} {es : List Expr} {fa : FA}
theorem cCallEL (C : CalleeC CX X.prog X.w X.K X.mg X.base ct k x ps g) (px : ∀ σ, PassesAt CX X σ (E σ)) (room : Room k X.A) (gd : X.A.guards = some []) (ha : PA X (e :: es) (tA (gx X ct) E fa)) (hn : ps.length = n := by rfl) (hg : Gl X x := by rfl) (hdb : (x == ("__debug__" : Str)) = false := by decide)
    (he : starEach (e :: es) X.env = (false, eval e X.env) :: starEach es X.env := by rfl) (hpl : (backTo pos (starEach es X.env)).any (·.1) = false := by rfl) : PE X (.Call (.Name x p) (e :: es) [] pos) (tF (gx X ct) E (fCallL n g fa)) := by
  obtain ⟨f, fd, F, m, kp, bn⟩ := C
  subst hn
  refine ⟨fun pins s σ H Q inv ⟨η, ρ, S, rp, er, h⟩ => ?_⟩
  refine wpAny_Call_Name_kw (ld_glob inv hg m ?_ hdb)
  refine PySem.W.callWith_K (h₀ := X.base) inv.ok.mod.kin kp (thn (ha.run pos pins s σ H _ inv ⟨η, ρ, S, rp, er, FinR.bind (rel := relL (gx X ct)) h⟩) fun us s1 ⟨vs, H1, inv1, rel, η1, ws, S1, f1, rp1, r1, h1⟩ => ⟨inv1.kIn, ?_⟩) he hpl
  have h2 : FinP (gx X ct) (E σ) η1 H1 (if ws.length = ps.length then g ws S1 else .bad) Q := h1
  by_cases hw : ws.length = ps.length
  · rw [if_pos hw] at h2
    exact run_E F room gd bn (px σ) inv1 rel ⟨by rw [← r1.length]; exact hw, η1, S1, ws, rp1, r1, h2⟩
  · rw [if_neg hw] at h2
    exact h2.elim
end
section
variable {P : Program} {w : World} {K : PySem.W.Frag} {mg : Str → Option Value} {base : Heap} {ct : Nat → Option Addr} {n : Nat} {x : Str} {st : Stmt} {N ps : List Str} {g : List W → Store → R W} {b : FS}
theorem callee2_succ (D : DefAt K mg x st) (hB : Bnd x st ps) (hS : FnScope N ps (defScope st)) (e : ∀ ws S, g ws S = if 2 ≤ n then runB N.length b ws S else .bad)
    (h : 2 ≤ n → ∀ (f : Addr) (cdv : Value) (A : Around) (outer : List Env) (s : Shared) (H : Hp) (E : XK), Room n (A.deeper (envOfC x (defScope st) s.heap.objs.size f cdv)) → A.guards = some [] → PSs (bodyX P w K mg base N x (defScope st) f cdv A outer s H E) (defBody st) (tS ⟨K, ct⟩ NX b)) :
    Callee P w K mg base ct (n + 1) x ps g := by
  by_cases h2 : 2 ≤ n
  · exact callee_succ D hB hS (fun ws S => by rw [e, if_pos h2]) (h h2)
  · exact callee_zero D hB fun ws S => by rw [e, if_neg h2]
/-- the law by its body, where it makes own things -/
theorem law2_of {y : Str} {nm : Str} {fa : Addr} (h2 : 2 ≤ n) (D : DefAt K mg nm st) (hB : Bnd nm st [y]) (hmg : mg nm = some (.ref fa)) (hS : FnScope N [y] (defScope st)) (e : ∀ ws S, g ws S = if 2 ≤ n then runB N.length b ws S else .bad)
    (h : ∀ (base : Heap) (f : Addr) (cdv : Value) (A : Around) (outer : List Env) (s : Shared) (H : Hp) (E : XK), Room n (A.deeper (envOfC nm (defScope st) s.heap.objs.size f cdv)) → A.guards = some [] → PSs (bodyX P w K mg base N nm (defScope st) f cdv A outer s H E) (defBody st) (tS ⟨K, ct⟩ NX b)) :
    ∃ fd : FuncData, (∀ (s : Shared) (u : Value), BindsTo s fd ⟨[u], []⟩ [(y, u)]) ∧ ∀ base : Heap, FnG P w K mg base CX0 (n + 1) fa fd [y] (spG ⟨K, ct⟩ 1 g) :=
  law_of D hB hmg hS (fun ws S => by rw [e, if_pos h2]) h
end
end VI
set_option Elab.async false
set_option linter.all false
set_option maxRecDepth 100000
namespace VI
open PySem PySem.Spec PyProof.Rows L2

/-! an own class without fields, from the head's facts -/
def otB (K : PySem.W.Frag) (C : Addr) : Bool :=
  decide (PySem.W.findIn K (.ref C) "__getattribute__" = some (some (.builtin "BaseException.__getattribute__"))) && (decide (PySem.W.findIn K (.ref C) "__getattr__" = some none) && (decide (PySem.W.subIn K (.ref C) (.type "BaseException") = some true) && (PySem.W.hasDictIn K C &&
  (decide (PySem.W.findIn K (.ref C) "__class__" = some (some (.builtin "object.__class__"))) && (decide (PySem.W.specialIn K (.builtin "object.__class__") "__get__" = some (some (.builtin "getset_descriptor.__get__"))) && (decide (PySem.W.takesIn K (.builtin "object.__class__") = some true) && (decide (PySem.W.mroIn K C (.type "object") = some true) &&
  tys.all fun T => decide (PySem.W.kitOne K (.ref C) (.type T) = some false))))))))
theorem otB_ok {K : PySem.W.Frag} {C : Addr} (h : otB K C = true) : OwnT K C := by
  obtain ⟨h1, h⟩ := He.ba h
  obtain ⟨h2, h⟩ := He.ba h
  obtain ⟨h3, h⟩ := He.ba h
  obtain ⟨h4, h⟩ := He.ba h
  obtain ⟨h5, h⟩ := He.ba h
  obtain ⟨h6, h⟩ := He.ba h
  obtain ⟨h7, h⟩ := He.ba h
  obtain ⟨h8, h⟩ := He.ba h
  exact ⟨⟨of_decide_eq_true h1, of_decide_eq_true h2, of_decide_eq_true h3, h4, of_decide_eq_true h5, of_decide_eq_true h6, of_decide_eq_true h7, of_decide_eq_true h8⟩, fun T m => of_decide_eq_true (List.all_eq_true.mp h T m)⟩
section
variable {K : PySem.W.Frag} {h : Heap} {mg : Str → Option Value} {fas : List He.Fa} {fns : List He.DefD} {P : Program} {w : World} {base : Heap} {k : Nat} {C fI : Addr} {fd : FuncData}
theorem init_no {qual : Str} {pr : Arguments} {body : List Stmt} {sc : Scope} (F : FunD K "__init__" qual pr body sc [] [] fI fd) (hS : FnScope ["self"] ["self"] sc)
    (hb : ∀ (cdv : Value) (A : Around) (outer : List Env) (s : Shared) (H : Hp) (E : XK), PSs (cxOf CX0 P w K mg base ["self"] qual sc fI cdv A outer s H E) body (fun D σ H => D.nx σ H)) :
    FnOk P w K mg base CX0 (k + 1) fI fd ["self"] (spNo C) := by
  refine FunD.ok F hS (fun vs H Q E h => ?_) fun cdv A outer s H vs Q E hr h => ?_
  · obtain ⟨a, rfl, _⟩ := h
    rfl
  · obtain ⟨a, rfl, _, q⟩ := h
    exact ⟨_, hb cdv A outer s H E, q⟩
theorem ownN_of {x qual : Str} {pr : Arguments} {body : List Stmt} {sc : Scope} (X : K.In h) (G : h.Ns mainGlobals mg) (c : (He.Fa.glo x).ok K = true) (T : oexB K (He.ga K x) = true) (ot : otB K (He.ga K x) = true) (m : (He.Fa.meth x "__init__").ok K = true) (ty : decide (PySem.W.typeIn K (.ref (He.ma K (He.ga K x) "__init__")) = some (.type "function")) = true)
    (F : ∃ fd, FunD K "__init__" qual pr body sc [] [] (He.ma K (He.ga K x) "__init__") fd) (hS : FnScope ["self"] ["self"] sc)
    (hB : ∀ (kV doc pm : Value) (an : Option Addr) (cdv ct : Value) (us : List Value), us.length = 1 → bindArgs (PySem.W.fnOf "__init__" qual pr body sc .none kV doc pm an cdv ct) ⟨us, []⟩ = pure ((["self"] : List Str).zip us))
    (hb : ∀ (cdv : Value) (A : Around) (outer : List Env) (s : Shared) (H : Hp) (E : XK), PSs (cxOf CX0 P w K mg base ["self"] qual sc (He.ma K (He.ga K x) "__init__") cdv A outer s H E) body (fun D σ H => D.nx σ H)) : KMake P w K mg base x := by
  obtain ⟨fd, F⟩ := F
  exact ⟨_, He.glo_ok X G c, oexB_ok T, ⟨_, fd, _, (He.meth_ok m).at_, of_decide_eq_true ty, init_no (k := 0) F hS hb, F.bindsN hB⟩, otB_ok ot⟩
theorem pass_body {X : Cx} {pos : Pos} : PSs X [.Pass pos] (fun D σ H => D.nx σ H) := PSsw (pss_one ps_pass) fun D σ H h => h
end
end VI
set_option Elab.async false
set_option linter.all false
set_option maxRecDepth 100000
namespace VI
open PySem PySem.Spec PyProof.Rows L2

/-! all(list), any(list) of truths -/
def boolsD : List PyData → Option (List Bool)
  | [] => some []
  | .bool b :: r => (boolsD r).map (b :: ·)
  | _ => none
theorem boolsD_ok {K : PySem.W.Frag} {η : List Addr} {H : Hp} : ∀ {ds : List PyData} {vs : List V} {bs : List Bool}, boolsD ds = some bs → RepDs K η H ds vs → vs = bs.map V.bl
  | [], _, _, e, r => by
    cases r
    cases e
    rfl
  | .bool b :: ds, _, _, e, r => by
    cases r with
    | cons h1 h2 =>
      cases h1
      cases q : boolsD ds with
      | none => rw [boolsD, q] at e; cases e
      | some ms => rw [boolsD, q] at e; cases e; rw [boolsD_ok q h2]; rfl
  | .none :: _, vs, ns, e, r => by cases e
  | .int _ :: _, vs, ns, e, r => by cases e
  | .str _ :: _, vs, ns, e, r => by cases e
  | .list _ :: _, vs, ns, e, r => by cases e
  | .tuple _ :: _, vs, ns, e, r => by cases e
  | .dict _ :: _, vs, ns, e, r => by cases e
theorem boolsD_map : ∀ bs : List Bool, boolsD (bs.map PyData.bool) = some bs
  | [] => rfl
  | x :: xs => by rw [List.map_cons, boolsD, boolsD_map xs]; rfl
def gAll (ws : List W) (S : Store) : O := match ws with
  | [w] => match asLst w S with
    | some xs => match boolsD xs with
      | some bs => some (.d (.bool (bs.all id)), S)
      | none => none
    | none => none
  | _ => none
def gAny (ws : List W) (S : Store) : O := match ws with
  | [w] => match asLst w S with
    | some xs => match boolsD xs with
      | some bs => some (.d (.bool (bs.any id)), S)
      | none => none
    | none => none
  | _ => none
variable {X : Cx} {ct : Nat → Option Addr}
theorem c_all (hc : X.calm = true) : CallR X (.builtin "all") (SimL X ct gAll) := CallR.fit (cr_all hc) fun xs H Q ⟨η, S, ws, rp, rr, q⟩ => by
  unfold gAll at q
  split at q
  · obtain ⟨v, rfl, r⟩ := repWs1 rr
    split at q
    · rename_i xs e
      obtain ⟨a, vs, rfl, h1, h2⟩ := asLst_ok e rp r
      split at q
      · rename_i bs e2
        have := boolsD_ok e2 h2
        subst this
        exact ⟨a, bs, rfl, h1, same_val rp (.d (.bool _)) q⟩
      · exact q.elim
    · exact q.elim
  · exact q.elim
theorem c_any (hc : X.calm = true) : CallR X (.builtin "any") (SimL X ct gAny) := CallR.fit (cr_any hc) fun xs H Q ⟨η, S, ws, rp, rr, q⟩ => by
  unfold gAny at q
  split at q
  · obtain ⟨v, rfl, r⟩ := repWs1 rr
    split at q
    · rename_i xs e
      obtain ⟨a, vs, rfl, h1, h2⟩ := asLst_ok e rp r
      split at q
      · rename_i bs e2
        have := boolsD_ok e2 h2
        subst this
        exact ⟨a, bs, rfl, h1, same_val rp (.d (.bool _)) q⟩
      · exact q.elim
    · exact q.elim
  · exact q.elim
/-! str(int), str(text) -/
def gStr (ws : List W) (S : Store) : O := match ws with
  | [.d (.int n)] => if n.natAbs.log2 < 1920 then some (.d (.str (toString n)), S) else none
  | [.d (.str a)] => some (.d (.str a), S)
  | _ => none
theorem c_str : CallR X (.type "str") (SimL X ct gStr) := CallR.fit (CallR.or call_str_int SkE.call_str_str) fun xs H Q ⟨η, S, ws, rp, rr, q⟩ => by
  unfold gStr at q
  split at q
  · rename_i n
    obtain ⟨v, rfl, r⟩ := repWs1 rr
    split at q
    · rename_i hn
      cases r with | d r => cases r; exact .inl ⟨n, rfl, hn, same_val rp (.d (.str _)) q⟩
    · exact q.elim
  · rename_i a
    obtain ⟨v, rfl, r⟩ := repWs1 rr
    cases r with | d r => cases r; exact .inr ⟨a, rfl, same_val rp (.d (.str _)) q⟩
  · exact q.elim

/-! startswith, endswith, join -/
def mStarts : GM := fun o ws S => match o, ws with
  | .d (.str a), [.d (.str b)] => some (.d (.bool (Txt.startswith a b)), S)
  | _, _ => none
def mEnds : GM := fun o ws S => match o, ws with
  | .d (.str a), [.d (.str b)] => some (.d (.bool (Txt.endswith a b)), S)
  | _, _ => none
theorem m_starts : MtR X "str.startswith" (SimM X ct mStarts) := MtR.fit mt_startswith fun x xs H Q ⟨η, S, wx, ws, rp, rx, rr, h⟩ => by
  unfold mStarts at h
  split at h
  · rename_i a b
    obtain ⟨v, rfl, r⟩ := repWs1 rr
    cases rx with | d rx => cases r with | d r => cases rx; cases r; exact ⟨a, b, rfl, rfl, same_val rp (.d (.bool _)) h⟩
  · exact h.elim
theorem m_ends : MtR X "str.endswith" (SimM X ct mEnds) := MtR.fit mt_endswith fun x xs H Q ⟨η, S, wx, ws, rp, rx, rr, h⟩ => by
  unfold mEnds at h
  split at h
  · rename_i a b
    obtain ⟨v, rfl, r⟩ := repWs1 rr
    cases rx with | d rx => cases r with | d r => cases rx; cases r; exact ⟨a, b, rfl, rfl, same_val rp (.d (.bool _)) h⟩
  · exact h.elim
def textsD : List PyData → Option (List Str)
  | [] => some []
  | .str b :: r => (textsD r).map (b :: ·)
  | _ => none
theorem textsD_ok {K : PySem.W.Frag} {η : List Addr} {H : Hp} : ∀ {ds : List PyData} {vs : List V} {bs : List Str}, textsD ds = some bs → RepDs K η H ds vs → vs = bs.map V.str
  | [], _, _, e, r => by
    cases r
    cases e
    rfl
  | .str b :: ds, _, _, e, r => by
    cases r with
    | cons h1 h2 =>
      cases h1
      cases q : textsD ds with
      | none => rw [textsD, q] at e; cases e
      | some ms => rw [textsD, q] at e; cases e; rw [textsD_ok q h2]; rfl
  | .none :: _, vs, ns, e, r => by cases e
  | .int _ :: _, vs, ns, e, r => by cases e
  | .bool _ :: _, vs, ns, e, r => by cases e
  | .list _ :: _, vs, ns, e, r => by cases e
  | .tuple _ :: _, vs, ns, e, r => by cases e
  | .dict _ :: _, vs, ns, e, r => by cases e
theorem textsD_map : ∀ bs : List Str, textsD (bs.map PyData.str) = some bs
  | [] => rfl
  | x :: xs => by rw [List.map_cons, textsD, textsD_map xs]; rfl
def mJoin : GM := fun o ws S => match o, ws with
  | .d (.str a), [w] => match asLst w S with
    | some xs => match textsD xs with
      | some ys => if (ys.map (·.length)).sum + ys.length * a.length ≤ 16777216 then some (.d (.str (Txt.join a ys)), S) else none
      | none => none
    | none => none
  | _, _ => none
theorem m_join : MtR X "str.join" (SimM X ct mJoin) := MtR.fit mt_join fun x xs H Q ⟨η, S, wx, ws, rp, rx, rr, h⟩ => by
  unfold mJoin at h
  split at h
  · rename_i a w
    obtain ⟨v, rfl, r⟩ := repWs1 rr
    split at h
    · rename_i xs e
      obtain ⟨p, vs, rfl, h1, h2⟩ := asLst_ok e rp r
      split at h
      · rename_i ys e2
        have := textsD_ok e2 h2
        subst this
        split at h
        · rename_i hz
          cases rx with | d rx => cases rx; exact ⟨a, p, ys, rfl, rfl, .inl h1, hz, same_val rp (.d (.str _)) h⟩
        · exact h.elim
      · exact h.elim
    · exact h.elim
  · exact h.elim
/-! upper, lower -/
def mUpper : GM := fun o ws S => match o, ws with
  | .d (.str a), [] => if a.length ≤ 5592405 then some (.d (.str (Txt.upper a)), S) else none
  | _, _ => none
def mLower : GM := fun o ws S => match o, ws with
  | .d (.str a), [] => if a.length ≤ 5592405 then some (.d (.str (Txt.lower a)), S) else none
  | _, _ => none
theorem m_upper : MtR X "str.upper" (SimM X ct mUpper) := MtR.fit mt_upper fun x xs H Q ⟨η, S, wx, ws, rp, rx, rr, h⟩ => by
  unfold mUpper at h
  split at h
  · rename_i a
    cases rr
    split at h
    · rename_i hz
      cases rx with | d rx => cases rx; exact ⟨a, rfl, rfl, hz, same_val rp (.d (.str _)) h⟩
    · exact h.elim
  · exact h.elim
theorem m_lower : MtR X "str.lower" (SimM X ct mLower) := MtR.fit mt_lower fun x xs H Q ⟨η, S, wx, ws, rp, rx, rr, h⟩ => by
  unfold mLower at h
  split at h
  · rename_i a
    cases rr
    split at h
    · rename_i hz
      cases rx with | d rx => cases rx; exact ⟨a, rfl, rfl, hz, same_val rp (.d (.str _)) h⟩
    · exact h.elim
  · exact h.elim
def fMethS0 (g : GM) (o : FE) : FE := fun ρ S => (o ρ S).bind fun ov S1 => match ov with
  | .d (.str z) => lift (g (.d (.str z)) [] S1)
  | _ => .bad
theorem i_methS0 {E : EX} {o : Expr} {name : Str} {apos cpos : Pos} {id : String} {g : GM} {fo : FE} (slot : Slot "str" name id) (hty : typeOf (.builtin id) = pure (.type "method_descriptor")) (hm : MtR X id (SimM X ct g)) (ho : PE X o (tF (gx X ct) E fo))
    (hbase : attributeBase o name X.env (eval o X.env) = eval o X.env := by rfl) (hline : (apos.endLine == cpos.line) = true := by rfl) :
    PE X (.Call (.Attribute o name apos) [] [] cpos) (tF (gx X ct) E (fMethS0 g fo)) := PEw (pe_bm0 PySem.F.plainAttrs_str slot hty hm ho hbase hline) fun σ H Q ⟨η, ρ, S, rp, er, h⟩ =>
  ⟨η, ρ, S, rp, er, FinR.mono (FinR.bind (rel := relW (gx X ct)) h) fun v H1 ⟨η1, w, S1, f1, rp1, r1, h1⟩ => by
    split at h1
    · rename_i z
      have r0 := r1
      cases r1 with
      | d r1 =>
        cases r1
        exact ⟨rfl, η1, S1, _, [], rp1, r0, .nil, lift_ok h1⟩
    · exact h1.elim⟩
end VI
set_option Elab.async false
set_option linter.all false
set_option maxRecDepth 100000
set_option maxHeartbeats 4000000
namespace VI
open PySem PySem.Spec PyProof.Rows L2

/-! tuple * int -/
theorem tuple_mul1 (l : Addr) (items : Array Value) (n : Nat) (dd : Option Addr) (sl : Array (Option Value)) (u : Tok) :
    Meets (Builtin.«tuple.__mul__» ⟨[.ref l, .int 1 u], []⟩) (fun _ R s => s.heap.get? l = some { cls := .type "tuple", dict := dd, data := .seq items n, slots := sl } ∧
      R (.ok (.ret (Value.ref l))) s) :=
  .of_wp fun prog w A R s h => by
    obtain ⟨hp, g, d, tk, os⟩ := s
    obtain ⟨hl, h⟩ := h
    have f1 := AutoSeq1.idx_int
    wp_walk using wpAny_loadPart' hl
    exact ⟨_, rfl, h⟩
theorem op_repT1 {X : Cx} : OpR X (binaryOp .Mult) (fun x y H Q => ∃ l xs, x = .ref l ∧ y = .int 1 ∧ SqT X.K H l xs ∧ Q (.ref l) H) := by
  intro pins s σ H x y v u Q I rx ry h
  obtain ⟨l, xs, rfl, rfl, hT, q⟩ := h
  cases rx
  obtain ⟨t, rfl⟩ := ry
  obtain ⟨its, r, ⟨⟨cls, dd, data, sl⟩, ho, hc, n, hd⟩, hs⟩ := I.tuple hT
  simp only at hc hd
  subst hc hd
  refine wpAny_binaryOp_repeat_ref (T := "tuple") (U := "int") (by decide) ⟨_, ho, rfl⟩ (fun s' => typeIs_int s' 1 t) noFill_tuple_mul F.fills_int_mul F.slot_int_rmul repeat_tuple F.slot_int_index.lookup
    (call_meets F.slot_int_rmul (typeIs_int s 1 t) F.entry_int_rmul (F.args_int_rmul_2 _ _) (int_rmul_tuple 1 t l its.toArray n dd sl)
      ⟨ho, rfl, ⟨_, ho, rfl⟩, call_meets F.slot_tuple_mul ⟨_, ho, rfl⟩ F.entry_tuple_mul (F.args_tuple_mul_2 _ _) (tuple_mul1 l its.toArray n dd sl t) ⟨ho, ?_⟩⟩)
  exact ⟨.ref l, H, I, rfl, q⟩
def gRepT (a b : W) (S : Store) : O := match a, b with
  | .d (.tuple xs), .d (.int k) => if xs ≠ [] ∧ xs.length ≤ 1000 ∧ 2 ≤ k ∧ k ≤ 1000 then some (.d (.tuple (List.replicate k.toNat xs).flatten), S) else none
  | _, _ => none
def gRep1 (a b : W) (S : Store) : O := match a, b with
  | .d (.tuple xs), .d (.int k) => if k = 1 then some (.d (.tuple xs), S) else none
  | _, _ => none
def gMulB (a b : W) (S : Store) : O := match gRep1 a b S with
  | some o => some o
  | none => gRepT a b S
section
variable {X : Cx} {ct : Nat → Option Addr}
theorem rep_rep {K : PySem.W.Frag} {η : List Addr} {H : Hp} {ds : List PyData} {vs : List V} (r : RepDs K η H ds vs) : ∀ k : Nat, RepDs K η H (List.replicate k ds).flatten (List.replicate k vs).flatten
  | 0 => .nil
  | k + 1 => by
    rw [List.replicate_succ, List.replicate_succ, List.flatten_cons, List.flatten_cons]
    exact r.append (rep_rep r k)
theorem sim_rep1 : OpR X (binaryOp .Mult) (Sim2 X ct gRep1) := OpR.fit op_repT1 fun x y H Q ⟨η, S, wx, wy, rp, rx, ry, h⟩ => by
  unfold gRep1 at h
  split at h
  · split at h
    · rename_i hk
      subst hk
      cases rx with
      | d rx =>
        cases ry with
        | d ry =>
          cases ry
          cases rx with
          | tuple h1 h2 => exact ⟨_, _, rfl, rfl, h1, same_val rp (.d (.tuple h1 h2)) h⟩
    · exact h.elim
  · exact h.elim
theorem sim_repT : OpR X (binaryOp .Mult) (Sim2 X ct gRepT) := OpR.fit op_repT fun x y H Q ⟨η, S, wx, wy, rp, rx, ry, h⟩ => by
  unfold gRepT at h
  split at h
  · split at h
    · rename_i xs k hk
      obtain ⟨hk1, hk2, hk3, hk4⟩ := hk
      cases rx with
      | d rx =>
        cases ry with
        | d ry =>
          cases ry
          cases rx with
          | tuple h1 h2 =>
            refine ⟨_, _, _, rfl, rfl, h1, ?_, hk3, hk4, by rw [← h2.length]; exact hk2, new_tup rp (rep_rep h2 _) h⟩
            intro e
            subst e
            exact hk1 (List.eq_nil_of_length_eq_zero (by rw [h2.length]; rfl))
    · exact h.elim
  · exact h.elim
theorem sim_mulB : OpR X (binaryOp .Mult) (Sim2 X ct gMulB) := OpR.orElse sim_rep1 sim_repT
end
end VI
set_option Elab.async false
set_option linter.all false
set_option maxRecDepth 100000
set_option maxHeartbeats 4000000
namespace VI
open PySem PySem.Spec PyProof.Rows L2

/-! sorted, of tuples of ints of any length, the first of which is empty -/
section
variable {prog : Program} {w : World} {A : Around} {E : Value → Shared → Prop} {s : Shared}
/-- v is a tuple of these ints -/
def TupI (h : Heap) (v : Value) (ns : List Int) : Prop := ∃ (a : Addr) (its : Array Value), v = .ref a ∧ IsTup h a its ∧ IntsAre its.toList ns
theorem oneLt_tup {u v : Value} {ns ms : List Int} {Q : Bool → Shared → Prop} (hv : TupI s.heap v ns) (hu : TupI s.heap u ms) (hr : A.units < cLine) (h : Q (HT.lexLt ns ms) s) : wpAny (model prog w) A (oneLt' true v u) Q E s := by
  obtain ⟨l, items, rfl, hl, hi⟩ := hv
  obtain ⟨b, items2, rfl, hb, hj⟩ := hu
  obtain ⟨⟨cls, dd, data, sl⟩, ho, hc, n, hd⟩ := id hl
  obtain ⟨⟨cls2, dd2, data2, sl2⟩, ho2, hc2, n2, hd2⟩ := id hb
  simp only at hc hd hc2 hd2
  subst hc hd hc2 hd2
  rw [oneLt'_eq]
  simp only [if_true]
  refine wpAny_bind (wpAny_cRoomFor hr ?_)
  refine wpAny_bind (wpAny_callSpecialIfBound?_slot ⟨_, ho, rfl⟩ PySem.F.slot_tuple_lt (call_meets PySem.F.slot_tuple_lt ⟨_, ho, rfl⟩ PySem.F.entry_tuple_lt (PySem.F.args_tuple_lt_2 _ _) (HT.tuple_lt_ints l b items items2 n n2 dd dd2 sl sl2 ns ms hi hj) ⟨ho, ho2, ?_⟩))
  exact wpAny_truthy_bool h
theorem TupI.keep {h h' : Heap} {v : Value} {ns : List Int} {a : Addr} (t : TupI h v ns) (ha : ∀ o, h.get? a = some o → o.cls ≠ .type "tuple") (k : ∀ b o, b ≠ a → h.get? b = some o → h'.get? b = some o) : TupI h' v ns := by
  obtain ⟨l, its, rfl, ⟨o, ho, hc, n, hd⟩, hi⟩ := t
  exact ⟨l, its, rfl, ⟨o, k l o (fun z => by subst z; exact ha o ho hc) ho, hc, n, hd⟩, hi⟩
theorem first_at {M : Model} {a : Addr} {its : Array Value} {Q : Option Value → Shared → Prop} (t : IsTup s.heap a its) (h : Q its[0]? s) : wpAny M A (firstOfTuple' (.ref a)) Q E s := by
  obtain ⟨o, ho, hc, n, hd⟩ := t
  rw [PySem.W.kas_first_eq]
  refine wpAny_bind (PySem.W.Looks.here (show PySem.W.Looks M s.heap (typeOf (.ref a)) o.cls from (PySem.W.Looks.ld ho).andThen .now) ?_)
  rw [hc, if_neg (by first | decide | simp)]
  exact wpAny_bind (listItems_at ho hd (wpAny_pure h))
theorem firsts_any {M : Model} : ∀ (vs : List Value) {Q : List (Option Value) → Shared → Prop}, (∀ v ∈ vs, ∃ ns, TupI s.heap v ns) → (∀ bs, Q bs s) → wpAny M A (vs.mapM firstOfTuple') Q E s
  | [], Q, _, h => by rw [List.mapM_nil]; exact wpAny_pure (h [])
  | v :: vs, Q, ht, h => by
    obtain ⟨ns, a, its, rfl, t, _⟩ := ht v (by simp)
    rw [List.mapM_cons]
    exact wpAny_bind (first_at t (wpAny_bind (firsts_any vs (fun u m => ht u (by simp [m])) fun bs => wpAny_pure (h _))))
theorem kind_tup {M : Model} {v : Value} {vs : List Value} {Q : SortKind → Shared → Prop} (h0 : TupI s.heap v []) (ht : ∀ u ∈ vs, ∃ ns, TupI s.heap u ns) (h : Q oneType' s) : wpAny M A (keyKind' (v :: vs).toArray) Q E s := by
  have hall : ∀ u ∈ v :: vs, PySem.W.Looks M s.heap (typeOf u) (.type "tuple") := fun u hu => by
    obtain ⟨ns, a, its, rfl, ⟨o, ho, hc, _⟩, _⟩ := show ∃ ns, TupI s.heap u ns from by
      rcases List.mem_cons.mp hu with rfl | hu
      · exact ⟨_, h0⟩
      · exact ht u hu
    exact hc ▸ (show PySem.W.Looks M s.heap (typeOf (.ref a)) o.cls from (PySem.W.Looks.ld ho).andThen .now)
  obtain ⟨a, its, rfl, t, hi⟩ := h0
  have e0 : its[0]? = none := by
    have z : its.toList.length = 0 := hi.length
    rw [Array.length_toList] at z
    exact Array.getElem?_eq_none (by omega)
  rw [keyKind'_eq, List.mapM_toArray, map_eq_pure_bind]
  refine wpAny_bind (wpAny_bind ?_)
  rw [List.mapM_cons]
  refine wpAny_bind (first_at t ?_)
  rw [e0]
  refine wpAny_bind (firsts_any vs ht fun bs => wpAny_pure ?_)
  refine wpAny_pure ?_
  rw [if_neg (by simp), if_neg (by simp)]
  rw [oneTypeOnly'_eq, List.mapM_toArray, map_eq_pure_bind]
  refine wpAny_bind (wpAny_bind (wpAny_bind (PySem.W.kas_mapM (r := Value.type "tuple") _ (fun v hv Q' hq => (hall v hv).here hq) (wpAny_pure ?_))))
  have hall2 : ((List.map (fun _ => Value.type "tuple") (Value.ref a :: vs)).toArray.all fun x => x == Value.type "tuple") = true := by
    simp only [List.all_toArray, List.all_map, List.all_eq_true]
    intro _ _
    rfl
  have h1 : (List.map (fun _ => Value.type "tuple") (Value.ref a :: vs)).toArray[0]? = some (Value.type "tuple") := by simp
  rw [h1]
  simp only [hall2, if_true]
  exact wpAny_pure (wpAny_pure h)
/-- the ints of a key, told by the heap -/
noncomputable def keyI (h : Heap) (v : Value) : List Int := by
  classical
  exact if e : ∃ ns, TupI h v ns then e.choose else []
theorem ints_uniq : ∀ {vs : List Value} {ns ms : List Int}, IntsAre vs ns → IntsAre vs ms → ns = ms
  | _, _, _, .nil, h => by cases h; rfl
  | _, _, _, .cons n t a, h => by
    cases h with
    | cons _ _ b => rw [ints_uniq a b]
theorem TupI.uniq {h : Heap} {v : Value} {ns ms : List Int} (a : TupI h v ns) (b : TupI h v ms) : ns = ms := by
  obtain ⟨l, its, rfl, ⟨o, ho, _, n, hd⟩, hi⟩ := a
  obtain ⟨l2, its2, e, ⟨o2, ho2, _, n2, hd2⟩, hi2⟩ := b
  cases e
  rw [ho] at ho2
  cases ho2
  rw [hd] at hd2
  cases hd2
  exact ints_uniq hi hi2
theorem keyI_eq {h : Heap} {v : Value} {ns : List Int} (t : TupI h v ns) : keyI h v = ns := by
  unfold keyI
  rw [dif_pos ⟨ns, t⟩]
  exact TupI.uniq (Exists.choose_spec (⟨ns, t⟩ : ∃ ns, TupI h v ns)) t
theorem tups_sortable {a : Addr} {v : Value} {vs : List Value} {k : Value → List Int} (h0 : TupI s.heap v []) (ht : ∀ u ∈ v :: vs, TupI s.heap u (k u)) (hr : A.units < cLine) (ha : ∀ o, s.heap.get? a = some o → o.cls ≠ .type "tuple") :
    SrtO.SortableO prog w A s a (v :: vs) fun v u => HT.lexLt (k v) (k u) := by
  intro h' keep
  have ht' : ∀ u ∈ v :: vs, TupI h' u (k u) := fun u m => (ht u m).keep ha keep
  refine ⟨oneType', fun Q E hq => kind_tup (s := { s with heap := h' }) (h0.keep ha keep) (fun u m => ⟨_, ht' u (by simp [m])⟩) hq, fun p q hp hq => ?_⟩
  show wpAny (model prog w) A (keyLt' oneType' p.1 q.1) _ _ _
  rw [keyLt'_oneType]
  exact oneLt_tup (s := { s with heap := h' }) (ht' _ hp) (ht' _ hq) hr ⟨rfl, rfl⟩
theorem sorted_tups {l : Addr} {v : Value} {vs : List Value} {k : Value → List Int} {Q : Value → Shared → Prop} (hl : s.heap.IsList l (v :: vs).toArray) (hz : (v :: vs).length ≤ sizeLine) (h0 : TupI s.heap v []) (ht : ∀ u ∈ v :: vs, TupI s.heap u (k u)) (hr : A.units + 2 < cLine)
    (h : ∀ (h' : Heap) (d : Addr) (out : List Value), SrtO.Srtd (fun v u => HT.lexLt (k v) (k u)) out → SrtO.Stb (fun v u => HT.lexLt (k v) (k u)) out (v :: vs) → (∀ b o, s.heap.get? b = some o → h'.get? b = some o) → s.heap.objs.size ≤ d → (∃ n, h'.get? d = some (seqObj "list" out.toArray n)) → Q (.ref d) { s with heap := h' }) :
    wpAny (model prog w) A (call (.builtin "sorted") [.ref l]) Q E s := by
  refine SrtO.sorted_ord (NtL.swo_lexL k) hl hz (fun h2 h₁ a ha kk => ?_) fun out hs hb => ?_
  · have kp : ∀ {u : Value} {ns : List Int}, TupI s.heap u ns → TupI h₁ u ns := fun {u ns} t => by
      obtain ⟨b, its, rfl, ⟨o, ho, hc, n, hd⟩, hi⟩ := t
      exact ⟨b, its, rfl, ⟨o, (kk b o ho).2, hc, n, hd⟩, hi⟩
    refine tups_sortable (s := { s with heap := h₁ }) (kp h0) (fun u m => kp (ht u m)) (by show A.units + 1 + 1 < cLine; omega) fun o e => ?_
    have e' : some o = some (seqObj "list" (v :: vs).toArray 0) := e.symm.trans ha
    cases e'
    intro c
    exact absurd (Value.type.inj c) (by decide)
  · exact h _ _ out hs hb (fun b o e => sortedAll_old e) (Nat.le_succ _) (sortedAll_at s.heap (v :: vs) out.toArray)
end
/-! the rule -/
def leT (x y : List Int) : Bool := !HT.lexLt y x
theorem leT_trans {x y z : List Int} (h1 : leT x y = true) (h2 : leT y z = true) : leT x z = true := by
  unfold leT at h1 h2 ⊢
  rw [Bool.not_eq_true'] at h1 h2 ⊢
  exact NtL.lex_tr _ _ _ h1 h2
theorem leT_total (x y : List Int) : leT x y = true ∨ leT y x = true := by
  unfold leT
  rw [Bool.not_eq_true', Bool.not_eq_true']
  cases e : HT.lexLt y x with
  | false => exact .inl rfl
  | true => exact .inr (NtL.lex_asym _ _ e)
theorem lex_anti : ∀ {x y : List Int}, HT.lexLt x y = false → HT.lexLt y x = false → x = y
  | [], [], _, _ => rfl
  | [], _ :: _, h, _ => by rw [HT.lexLt_nil_cons] at h; cases h
  | _ :: _, [], _, h => by rw [HT.lexLt_nil_cons] at h; cases h
  | a :: x, b :: y, h1, h2 => by
    rw [HT.lexLt_cons] at h1 h2
    by_cases e : a = b
    · subst e
      rw [if_pos rfl] at h1 h2
      rw [lex_anti h1 h2]
    · rw [if_neg e, decide_eq_false_iff_not] at h1
      rw [if_neg (Ne.symm e), decide_eq_false_iff_not] at h2
      omega
theorem leT_anti {x y : List Int} (h1 : leT x y = true) (h2 : leT y x = true) : x = y := by
  unfold leT at h1 h2
  rw [Bool.not_eq_true'] at h1 h2
  exact lex_anti h2 h1
def srtT (zs : List (List Int)) : List (List Int) := zs.mergeSort leT
theorem srtT_eq {ys zs : List (List Int)} (hp : ys.Perm zs) (hs : ys.Pairwise fun a b => leT a b = true) : ys = srtT zs :=
  List.Perm.eq_of_pairwise (fun a b _ _ h1 h2 => leT_anti h1 h2) hs (List.pairwise_mergeSort (le := leT) (fun a b c => leT_trans) (fun a b => (Bool.or_eq_true _ _).mpr (leT_total a b)) zs) (hp.trans (List.mergeSort_perm zs leT).symm)
theorem intsD_eq : ∀ {ds : List PyData} {ns : List Int}, intsD ds = some ns → ds = ns.map PyData.int
  | [], ns, h => by cases h; rfl
  | d :: ds, ns, h => by
    cases d with
    | int i =>
      rw [intsD] at h
      cases e : intsD ds with
      | none => rw [e] at h; cases h
      | some ms =>
        rw [e] at h
        cases h
        rw [intsD_eq e]
        rfl
    | _ => cases h
def tupsD : List PyData → Option (List (List Int))
  | [] => some []
  | .tuple xs :: r => match intsD xs, tupsD r with
    | some ns, some ks => some (ns :: ks)
    | _, _ => none
  | _ :: _ => none
def tupD (ns : List Int) : PyData := .tuple (ns.map PyData.int)
theorem tupsD_map : ∀ ks : List (List Int), tupsD (ks.map tupD) = some ks
  | [] => rfl
  | k :: ks => by
    rw [List.map_cons]
    show (match intsD (k.map PyData.int), tupsD (ks.map tupD) with | some ns, some ks => some (ns :: ks) | _, _ => none) = _
    rw [intsD_map, tupsD_map ks]
theorem tupsD_ok : ∀ {ds : List PyData} {ks : List (List Int)}, tupsD ds = some ks → ds = ks.map tupD
  | [], ks, h => by cases h; rfl
  | d :: ds, ks, h => by
    cases d with
    | tuple xs =>
      rw [tupsD] at h
      cases e : intsD xs with
      | none => rw [e] at h; cases h
      | some ns =>
        cases e2 : tupsD ds with
        | none => rw [e, e2] at h; cases h
        | some ms =>
          rw [e, e2] at h
          cases h
          rw [tupsD_ok e2, List.map_cons, intsD_eq e]
          rfl
    | _ => cases h
def gSortT (ws : List W) (S : Store) : O := match ws with
  | [u] => match asLW u S with
    | some us => match datas us with
      | some ds => match tupsD ds with
        | some ([] :: ks) => if ks.length < 1000000 then some (.d (.list ((srtT ([] :: ks)).map tupD)), S) else none
        | _ => none
      | none => none
    | none => none
  | _ => none
def gSortA (ws : List W) (S : Store) : O := match gSorted ws S with
  | some o => some o
  | none => gSortT ws S
section
variable {X : Cx} {ct : Nat → Option Addr}
/-- tuples of ints in the heap -/
def VTups (K : PySem.W.Frag) (H : Hp) : List V → List (List Int) → Prop
  | [], [] => True
  | v :: vs, k :: ks => (∃ a, v = .ref a ∧ SqT K H a (k.map V.int)) ∧ VTups K H vs ks
  | _, _ => False
theorem vtups_of {K : PySem.W.Frag} {η : List Addr} {H : Hp} : ∀ {ks : List (List Int)} {vs : List V}, RepDs K η H (ks.map tupD) vs → VTups K H vs ks
  | [], _, h => by cases h; trivial
  | k :: ks, _, h => by
    rw [List.map_cons] at h
    cases h with
    | cons h1 h2 =>
      refine ⟨?_, vtups_of h2⟩
      cases h1 with
      | tuple h3 h4 =>
        rw [intsD_ok (intsD_map k) h4] at h3
        exact ⟨_, rfl, h3⟩
theorem rep_vtups {K : PySem.W.Frag} {η : List Addr} {H : Hp} : ∀ {ks : List (List Int)} {vs : List V}, VTups K H vs ks → RepDs K η H (ks.map tupD) vs
  | [], [], _ => .nil
  | [], _ :: _, h => h.elim
  | _ :: _, [], h => h.elim
  | k :: ks, v :: vs, ⟨⟨a, e, h1⟩, h2⟩ => by
    subst e
    exact .cons (.tuple h1 (ints_map k)) (rep_vtups h2)
where ints_map {K : PySem.W.Frag} {η : List Addr} {H : Hp} : ∀ ns : List Int, RepDs K η H (ns.map PyData.int) (ns.map V.int)
  | [] => .nil
  | n :: ns => .cons (.int n) (ints_map ns)

def refV (u : Value) : V := match u with
  | .ref a => .ref a
  | _ => .non
theorem vtups_its {K : PySem.W.Frag} {H : Hp} {X : Cx} {pins : List (Addr × Obj)} {σ : L2.St} {s : Shared} (hK : X.K = K) (I : Inv X pins σ H s) : ∀ {vs : List V} {its : List Value} {ks : List (List Int)}, Vals vs its → VTups K H vs ks →
    its.map (keyI s.heap) = ks ∧ ∀ u ∈ its, (∃ a, u = .ref a ∧ SqT K H a ((keyI s.heap u).map V.int)) ∧ TupI s.heap u (keyI s.heap u)
  | [], _, [], r, _ => by cases r; exact ⟨rfl, fun _ h => by cases h⟩
  | [], _, _ :: _, _, h => h.elim
  | _ :: _, _, [], _, h => h.elim
  | v :: vs, _, k :: ks, r, ⟨⟨a, e, h1⟩, h2⟩ => by
    subst e
    cases r with
    | cons r1 r2 =>
      rename_i u us
      obtain rfl : u = .ref a := r1
      obtain ⟨e1, e2⟩ := vtups_its hK I r2 h2
      subst hK
      obtain ⟨its, rv, t, _⟩ := I.tuple h1
      have ti : TupI s.heap (.ref a) k := ⟨a, its.toArray, rfl, t, intsAre_of rv⟩
      have ke := keyI_eq ti
      refine ⟨by rw [List.map_cons, ke, e1], fun u hu => ?_⟩
      rcases List.mem_cons.mp hu with rfl | hu
      · rw [ke]
        exact ⟨⟨a, rfl, h1⟩, ti⟩
      · exact e2 u hu
theorem vals_refV : ∀ {us : List Value}, (∀ u ∈ us, ∃ a, u = .ref a) → Vals (us.map refV) us
  | [], _ => .nil
  | u :: us, h => by
    obtain ⟨a, rfl⟩ := h u (by simp)
    exact .cons rfl (vals_refV fun u m => h u (by simp [m]))
theorem vtups_refV {K : PySem.W.Frag} {H : Hp} {k : Value → List Int} : ∀ {us : List Value}, (∀ u ∈ us, ∃ a, u = .ref a ∧ SqT K H a ((k u).map V.int)) → VTups K H (us.map refV) (us.map k)
  | [], _ => trivial
  | u :: us, h => by
    obtain ⟨a, e, h1⟩ := h u (by simp)
    refine ⟨⟨a, by rw [e]; rfl, h1⟩, vtups_refV fun u m => h u (by simp [m])⟩
theorem cr_sortedT (hr : X.A.units + 64 < cLine) : CallR X (.builtin "sorted") (fun xs H Q => ∃ a vs ks, xs = [.ref a] ∧ SqL X.K H a vs ∧ VTups X.K H vs ([] :: ks) ∧ ∀ (ys : List V) (js : List (List Int)) (p : Addr), js.Perm ([] :: ks) → (js.Pairwise fun a b => leT a b = true) → VTups X.K H ys js → H p = none → Q (.ref p) (upd H p (.lst ys))) := by
  intro pins s σ H xs us Q I r h
  obtain ⟨a, vs, ks, rfl, hs, ht, q⟩ := h
  obtain ⟨its, rv, hl, hlen⟩ := I.list hs
  rw [Vals.ref1 r]
  obtain ⟨e1, e2⟩ := vtups_its rfl I rv ht
  have ln := rv.length
  cases its with
  | nil => cases e1
  | cons u0 us0 =>
    rw [List.map_cons] at e1
    injection e1 with e3 e4
    have t0 := (e2 u0 (by simp)).2
    rw [e3] at t0
    refine sorted_tups (k := keyI s.heap) hl.isList (by rw [← ln]; exact hlen) t0 (fun u m => (e2 u m).2) (by omega) fun h' d out hs hb keep hd hg => ?_
    obtain ⟨n, hg⟩ := hg
    have pm : out.Perm (u0 :: us0) := hb.perm
    have mm : ∀ u ∈ out, (∃ a, u = .ref a ∧ SqT X.K H a ((keyI s.heap u).map V.int)) ∧ TupI s.heap u (keyI s.heap u) := fun u m => e2 u (pm.mem_iff.mp m)
    have hz : (out.map refV).length ≤ sizeLine := by rw [List.length_map, pm.length_eq, ← ln]; exact hlen
    refine ⟨.ref d, upd H d (.lst (out.map refV)), I.laid (t' := s.toks) keep hd ⟨hz, out, n, vals_refV fun u m => by
      obtain ⟨⟨a, e, _⟩, _⟩ := mm u m
      exact ⟨a, e⟩, hg⟩, rfl, q _ (out.map (keyI s.heap)) d ?_ ?_ (vtups_refV fun u m => (mm u m).1) (I.hok.fresh hd)⟩
    · have := pm.map (keyI s.heap)
      rw [List.map_cons, e3, e4] at this
      exact this
    · refine List.pairwise_map.mpr (hs.imp fun {x y} e => ?_)
      show (!HT.lexLt (keyI s.heap y) (keyI s.heap x)) = true
      rw [show HT.lexLt (keyI s.heap y) (keyI s.heap x) = false from e]
      rfl
theorem c_sortedT (hr : X.A.units + 64 < cLine) : CallR X (.builtin "sorted") (SimL X ct gSortT) := CallR.fit (cr_sortedT hr) fun xs H Q ⟨η, S, ws, rp, rr, q⟩ => by
  unfold gSortT at q
  split at q
  · rename_i u
    obtain ⟨v, rfl, r⟩ := repWs1 rr
    split at q
    · rename_i us e1
      obtain ⟨a, vs, rfl, h1, h2⟩ := asLW_ok e1 rp r
      split at q
      · rename_i ds e2
        have h3 := datas_ok e2 h2
        split at q
        · rename_i ks e3
          split at q
          · rename_i hl
            have ed := tupsD_ok e3
            rw [ed] at h3
            refine ⟨a, vs, ks, rfl, h1, vtups_of h3, fun ys js p hp hs ht np => ?_⟩
            rw [← srtT_eq hp hs] at q
            exact new_list rp (rep_vtups ht) q p np
          · exact q.elim
        · exact q.elim
      · exact q.elim
    · exact q.elim
  · exact q.elim
theorem c_sortedA (hr : X.A.units + 64 < cLine) : CallR X (.builtin "sorted") (SimL X ct gSortA) := CallR.fit (CallR.or c_sorted (c_sortedT hr)) fun xs H Q ⟨η, S, ws, rp, rr, q⟩ => by
  unfold gSortA at q
  cases e : gSorted ws S with
  | some o => rw [e] at q; exact .inl ⟨η, S, ws, rp, rr, by rw [e]; exact q⟩
  | none => rw [e] at q; exact .inr ⟨η, S, ws, rp, rr, q⟩
end
end VI
set_option Elab.async false
set_option linter.all false
set_option maxRecDepth 100000
namespace VI
open PySem PySem.Spec PyProof.Rows L2

/-! a body evaluated -/
section
variable {g : W → W → Store → O} {h : W → Store → O} {a b : FE} {fa : FA} {t : FT} {p q : FS} {ρ ρ1 : Rho} {S S1 S2 S3 : Store} {x y z : W}
theorem ev_var {i : Nat} (e : ρ[i]? = some (some x)) : fVar i ρ S = .ok x S := by unfold fVar; rw [e]
theorem ev_f2 (ea : a ρ S = .ok x S1) (eb : b ρ S1 = .ok y S2) (e : g x y S2 = some (z, S3)) : f2 g a b ρ S = .ok z S3 := by
  unfold f2
  rw [ea]
  show (b ρ S1).bind _ = _
  rw [eb]
  show lift (g x y S2) = _
  rw [e]
  rfl
theorem ev_f1 (ea : a ρ S = .ok x S1) (e : h x S1 = some (z, S2)) : f1 h a ρ S = .ok z S2 := by
  unfold f1
  rw [ea]
  show lift (h x S1) = _
  rw [e]
  rfl
theorem ev_L {k : List W → Store → O} {ws : List W} (ea : fa ρ S = .ok ws S1) (e : k ws S1 = some (z, S2)) : fL k fa ρ S = .ok z S2 := by
  unfold fL
  rw [ea]
  show lift (k ws S1) = _
  rw [e]
  rfl
theorem ev_ac {ws : List W} (ea : a ρ S = .ok x S1) (er : fa ρ S1 = .ok ws S2) : fAc a fa ρ S = .ok (x :: ws) S2 := by
  unfold fAc
  rw [ea]
  show (fa ρ S1).bind _ = _
  rw [er]
  rfl
theorem ev_one (ea : a ρ S = .ok x S1) : fAc a fA0 ρ S = .ok [x] S1 := ev_ac ea rfl
theorem ev_seq (ep : p ρ S = .next ρ1 S1) : fSeq p q ρ S = q ρ1 S1 := by unfold fSeq; rw [ep]
theorem ev_test {k : Bool} (ea : a ρ S = .ok (.d (.bool k)) S1) : fTest a ρ S = .ok k S1 := by unfold fTest; rw [ea]; rfl
theorem ev_yes (et : t ρ S = .ok true S1) : fIf t p q ρ S = p ρ S1 := by unfold fIf; rw [et]; rfl
theorem ev_no (et : t ρ S = .ok false S1) : fIf t p q ρ S = q ρ S1 := by unfold fIf; rw [et]; rfl
theorem ev_asg {i : Nat} (ea : a ρ S = .ok x S1) : fAsg a (gtName i) ρ S = .next (ρ.set i (some x)) S1 := by unfold fAsg; rw [ea]; rfl
theorem ev_ret (ea : a ρ S = .ok x S1) : fRet a ρ S = .ret x S1 := by unfold fRet; rw [ea]; rfl
theorem ev_store {fo fi fe : FE} {o i v : W} {S4 : Store} (ee : fe ρ S = .ok v S1) (eo : fo ρ S1 = .ok o S2) (ei : fi ρ S2 = .ok i S3) (es : gSet o i v S3 = some S4) : fStore fe fo fi ρ S = .next ρ S4 := by
  unfold fStore
  rw [ee]
  show toS ρ (fo ρ S1) _ = _
  rw [eo]
  show toS ρ (fi ρ S2) _ = _
  rw [ei]
  show (match gSet o i v S3 with | some S4 => RF.next ρ S4 | none => RF.bad) = _
  rw [es]
theorem ev_augAt {fo fi fe : FE} {o i v : W} {old : PyData} {S4 S5 : Store} (eo : fo ρ S = .ok o S1) (ei : fi ρ S1 = .ok i S2) (eg : gAt o i S2 = some old) (ee : fe ρ S2 = .ok v S3) (ex : g (.d old) v S3 = some (z, S4)) (es : gSet o i z S4 = some S5) : fAugAt fo fi g fe ρ S = .next ρ S5 := by
  unfold fAugAt
  rw [eo]
  show toS ρ (fi ρ S1) _ = _
  rw [ei]
  show (match gAt o i S2 with | some old => _ | none => _) = _
  rw [eg]
  show toS ρ (fe ρ S2) _ = _
  rw [ee]
  show (match g (.d old) v S3 with | some (z, S4) => _ | none => _) = _
  rw [ex]
  show (match gSet o i z S4 with | some S5 => RF.next ρ S5 | none => RF.bad) = _
  rw [es]
theorem ev_I2 {C : Int → Int → Bool} {f : Int → Int → PyData} {i j : Int} (c : C i j = true) : gI2 C f (.d (.int i)) (.d (.int j)) S = some (.d (f i j), S) := by unfold gI2; exact if_pos c
theorem ev_mulA {i j : Int} (c : decide (i.natAbs.log2 + j.natAbs.log2 < 1000000) = true) : gMulA (.d (.int i)) (.d (.int j)) S = some (.d (.int (i * j)), S) := by
  show gMul (.d (.int i)) (.d (.int j)) S = _
  exact ev_I2 c
theorem ev_eqI {i j : Int} : gEq (.d (.int i)) (.d (.int j)) S = some (.d (.bool (decide (i = j))), S) := by
  have e : PyData.eqv (.int i) (.int j) = decide (i = j) := by
    by_cases h : i = j
    · subst h; simp [PyData.eqv]
    · simp [PyData.eqv, h]
  show (if SeqAt.shaped (.int i) = true ∧ SeqAt.shaped (.int j) = true then some (W.d (.bool (PyData.eqv (.int i) (.int j))), S) else none) = _
  rw [if_pos ⟨rfl, rfl⟩, e]
end
/-! the bag: what it holds, a number taken of it -/
structure Bag where
  b0 : Int
  b1 : Int
  b2 : Nat
  cs : List Int
def Bag.so (b : Bag) : SO := .lst [.int b.b0, .int b.b1, .int (b.b2 : Int), .list (b.cs.map PyData.int)]
structure Bag.Ok (b : Bag) : Prop where
  h0 : 0 ≤ b.b0
  h1 : 0 ≤ b.b1 ∧ b.b1 < 2147483647
  h2 : ∀ c ∈ b.cs, 0 ≤ c
noncomputable def bTake : FS := (fSeq (fIf (fTest (f2 gEq (f2 gIx (fVar 0) (fC (.int 0))) (fC (.int 0)))) (fSeq (fAsg (f2 gIx (f2 gAdd (fSl gSlA (f2 gIx (fVar 0) (fC (.int 3))) (fPart (f2 gIx (fVar 0) (fC (.int 2)))) fNoPart) (fL gLst (fAc (fC (.int 0)) fA0))) (fC (.int 0))) (gtName 2)) (fSeq (fAugAt (fVar 0) (fC (.int 2)) (gI2 (fun _ _ => true) fun i j => .int (i + j)) (fC (.int 1))) (fSeq (fIf (fTest (f2 gGe (fVar 2) (f2 gPow (fC (.int 10)) (fC (.int 18))))) (fStore (fVar 2) (fVar 0) (fC (.int 0))) fNext) (fSeq (fAsg (f2 gAdd (f2 gAdd (f2 gMulA (f2 gIx (fVar 0) (fC (.int 1))) (fC (.int 48271))) (f2 gMod (fL gIntA (fAc (fVar 2) fA0)) (fC (.int 2147483647)))) (f2 gMulA (fC (.int 7919)) (f2 gIx (fVar 0) (fC (.int 2))))) (gtName 3)) (fStore (f2 gMod (fL gIntA (fAc (fVar 3) fA0)) (fC (.int 2147483647))) (fVar 0) (fC (.int 1))))))) fNext) (fSeq (fIf (fTest (f2 gGt (f2 gIx (fVar 0) (fC (.int 0))) (fC (.int 0)))) (fSeq (fAsg (f2 gMod (fL gIntA (fAc (f2 gIx (fVar 0) (fC (.int 0))) fA0)) (fVar 1)) (gtName 4)) (fSeq (fStore (f2 gDiv (fL gIntA (fAc (f2 gIx (fVar 0) (fC (.int 0))) fA0)) (fVar 1)) (fVar 0) (fC (.int 0))) (fRet (fVar 4)))) fNext) (fSeq (fAsg (f2 gMod (fL gIntA (fAc (f2 gMulA (f2 gAdd (f2 gIx (fVar 0) (fC (.int 1))) (fC (.int 1))) (fC (.int 39373))) fA0)) (fC (.int 1000000007))) (gtName 5)) (fSeq (fAsg (f2 gMod (fL gIntA (fAc (f2 gMulA (f2 gMod (fL gIntA (fAc (f2 gMulA (fVar 5) (fVar 5)) fA0)) (fC (.int 998244353))) (fC (.int 30011))) fA0)) (fC (.int 998244353))) (gtName 6)) (fRet (f2 gMod (fL gIntA (fAc (f2 gDiv (fVar 6) (fC (.int 7))) fA0)) (fVar 1)))))))
/-- a number taken: what, and the bag then -/
def Bag.step (b : Bag) : Bag :=
  if b.b0 = 0 then ⟨if 1000000000000000000 ≤ b.cs.getD b.b2 0 then b.cs.getD b.b2 0 else 0, (b.b1 * 48271 + b.cs.getD b.b2 0 % 2147483647 + 7919 * ((b.b2 : Int) + 1)) % 2147483647, b.b2 + 1, b.cs⟩ else b
def Bag.take (b : Bag) (m : Int) : Int × Bag :=
  if 0 < b.step.b0 then (b.step.b0 % m, { b.step with b0 := b.step.b0 / m })
  else (((b.step.b1 + 1) * 39373 % 1000000007 * ((b.step.b1 + 1) * 39373 % 1000000007) % 998244353 * 30011 % 998244353 / 7) % m, b.step)
theorem bag_rd {ρ : Rho} {S : Store} {l : Nat} {b : Bag} (hρ : ρ[0]? = some (some (.loc l))) (hS : S[l]? = some b.so) :
    f2 gIx (fVar 0) (fC (.int 0)) ρ S = .ok (.d (.int b.b0)) S ∧ f2 gIx (fVar 0) (fC (.int 1)) ρ S = .ok (.d (.int b.b1)) S ∧ f2 gIx (fVar 0) (fC (.int 2)) ρ S = .ok (.d (.int (b.b2 : Int))) S ∧ f2 gIx (fVar 0) (fC (.int 3)) ρ S = .ok (.d (.list (b.cs.map PyData.int))) S := by
  have e : asSeq (.loc l) S = some [.int b.b0, .int b.b1, .int (b.b2 : Int), .list (b.cs.map PyData.int)] := by simp [asSeq, hS, Bag.so]
  refine ⟨?_, ?_, ?_, ?_⟩ <;> simp [f2, fVar, hρ, fC, R.bind, gIx, e, lift, atI, ixN]
def tkA : FS := (fSeq (fAsg (f2 gIx (f2 gAdd (fSl gSlA (f2 gIx (fVar 0) (fC (.int 3))) (fPart (f2 gIx (fVar 0) (fC (.int 2)))) fNoPart) (fL gLst (fAc (fC (.int 0)) fA0))) (fC (.int 0))) (gtName 2)) (fSeq (fAugAt (fVar 0) (fC (.int 2)) (gI2 (fun _ _ => true) fun i j => .int (i + j)) (fC (.int 1))) (fSeq (fIf (fTest (f2 gGe (fVar 2) (f2 gPow (fC (.int 10)) (fC (.int 18))))) (fStore (fVar 2) (fVar 0) (fC (.int 0))) fNext) (fSeq (fAsg (f2 gAdd (f2 gAdd (f2 gMulA (f2 gIx (fVar 0) (fC (.int 1))) (fC (.int 48271))) (f2 gMod (fL gIntA (fAc (fVar 2) fA0)) (fC (.int 2147483647)))) (f2 gMulA (fC (.int 7919)) (f2 gIx (fVar 0) (fC (.int 2))))) (gtName 3)) (fStore (f2 gMod (fL gIntA (fAc (fVar 3) fA0)) (fC (.int 2147483647))) (fVar 0) (fC (.int 1)))))))
/-- the next cell, 0 behind the last -/
theorem cut_cell {ρ : Rho} {S : Store} {l : Nat} {b : Bag} (hρ : ρ[0]? = some (some (.loc l))) (hS : S[l]? = some b.so) (hl : b.cs.length < 1000) :
    f2 gIx (f2 gAdd (fSl gSlA (f2 gIx (fVar 0) (fC (.int 3))) (fPart (f2 gIx (fVar 0) (fC (.int 2)))) fNoPart) (fL gLst (fAc (fC (.int 0)) fA0))) (fC (.int 0)) ρ S = .ok (.d (.int (b.cs.getD b.b2 0))) S := by
  obtain ⟨h0, h1, h2, h3⟩ := bag_rd hρ hS
  have hc : cutG (b.cs.map PyData.int) (some (b.b2 : Int)) none = (b.cs.drop b.b2).map PyData.int := by
    unfold cutG
    rw [List.map_drop]
    have e1 : HT.sIx (b.cs.map PyData.int).length 0 (some (b.b2 : Int)) = min b.b2 (b.cs.map PyData.int).length := HT.sIx_nat _ _ _
    rw [e1, HT.sIx_none, List.length_map]
    by_cases h : b.b2 ≤ b.cs.length
    · rw [Nat.min_eq_left h, List.take_of_length_le (by rw [List.length_drop, List.length_map]; exact Nat.le_refl _)]
    · rw [Nat.min_eq_right (by omega), List.drop_of_length_le (by rw [List.length_map]; exact Nat.le_refl _), List.drop_of_length_le (by rw [List.length_map]; omega)]
      rw [List.take_nil]
  have hd : ∀ xs : List Int, ((xs.map PyData.int) ++ [PyData.int 0])[0]? = some (.int (xs.getD 0 0)) := fun xs => by cases xs <;> simp
  have hg : (b.cs.drop b.b2).getD 0 0 = b.cs.getD b.b2 0 := by simp [List.getD_eq_getElem?_getD]
  have hz : (b.cs.drop b.b2).length + 1 ≤ lim := by rw [List.length_drop]; show _ ≤ 16777216; omega
  have e1 : fSl gSlA (f2 gIx (fVar 0) (fC (.int 3))) (fPart (f2 gIx (fVar 0) (fC (.int 2)))) fNoPart ρ S = .ok (.d (.list ((b.cs.drop b.b2).map PyData.int))) S := by
    simp only [fSl, h3, R.bind, fPart, h2, intOf, fNoPart, gSlA, gSl, asSeq, hc, lift]
  have e2 : fL gLst (fAc (fC (.int 0)) fA0) ρ S = .ok (.d (.list [.int 0])) S := ev_L (ev_one rfl) rfl
  have e3 : gAdd (.d (.list ((b.cs.drop b.b2).map PyData.int))) (.d (.list [.int 0])) S = some (.d (.list ((b.cs.drop b.b2).map PyData.int ++ [.int 0])), S) := by
    simp only [gAdd, asL, List.length_map, List.length_cons, List.length_nil]
    rw [if_pos hz]
  have e4 : atI ((b.cs.drop b.b2).map PyData.int ++ [PyData.int 0]) 0 = some (.int (b.cs.getD b.b2 0)) := by
    rw [← hg, ← hd]
    simp [atI, ixN]
  exact ev_f2 (ev_f2 e1 e2 e3) rfl (by simp only [gIx, asSeq, e4, Option.map])
/-- a store into the bag, a member counted up -/
theorem bag_set {S : Store} {l : Nat} {b : Bag} (hS : S[l]? = some b.so) (i : Int) :
    gSet (.loc l) (.d (.int 0)) (.d (.int i)) S = some (S.set l ({ b with b0 := i } : Bag).so) ∧ gSet (.loc l) (.d (.int 1)) (.d (.int i)) S = some (S.set l ({ b with b1 := i } : Bag).so) := by
  constructor <;> (unfold gSet; simp only [hS, Bag.so]; rfl)
theorem bag_up {S : Store} {l : Nat} {b : Bag} (hS : S[l]? = some b.so) :
    gAt (.loc l) (.d (.int 2)) S = some (.int (b.b2 : Int)) ∧ gSet (.loc l) (.d (.int 2)) (.d (.int ((b.b2 : Int) + 1))) S = some (S.set l ({ b with b2 := b.b2 + 1 } : Bag).so) := by
  constructor
  · unfold gAt
    simp only [hS, Bag.so]
    rfl
  · unfold gSet
    simp only [hS, Bag.so]
    rfl
theorem at_set {S : Store} {l : Nat} {o u : SO} (hS : S[l]? = some o) : (S.set l u)[l]? = some u := List.getElem?_set_self (List.getElem?_eq_some_iff.mp hS).1
theorem bag_mul {i j : Int} {n m : Nat} (hi : i.natAbs < 2 ^ n) (hj : j.natAbs < 2 ^ m) (h : n + m < 1000000) : decide (i.natAbs.log2 + j.natAbs.log2 < 1000000) = true := by
  have l1 : ∀ {k p : Nat}, k < 2 ^ p → k.log2 ≤ p := fun {k p} hk => by
    by_cases z : k = 0
    · subst z; rw [Nat.log2_zero]; exact Nat.zero_le _
    · exact Nat.le_of_lt ((Nat.log2_lt z).mpr hk)
  have a := l1 hi
  have b := l1 hj
  exact decide_eq_true (by omega)
/-- the bag stirred -/
theorem stir_run {ρ : Rho} {S : Store} {l : Nat} {b : Bag} (hρ : ρ[0]? = some (some (.loc l))) (h7 : ρ.length = 7) (hS : S[l]? = some b.so) (h0 : b.b0 = 0) (h1 : 0 ≤ b.b1 ∧ b.b1 < 2147483647) (h2 : b.b2 < 2 ^ 60) (hl : b.cs.length < 1000) :
    ∃ u v, tkA ρ S = .next ((ρ.set 2 u).set 3 v) (S.set l b.step.so) := by
  have hc := cut_cell hρ hS hl
  have at0 : ∀ {w : Option W} {i : Nat}, (ρ.set (i + 1) w)[0]? = some (some (.loc l)) := fun {w i} => by rw [List.getElem?_set_ne (by omega)]; exact hρ
  let c := b.cs.getD b.b2 0
  have q1 := (at0 (w := some (.d (.int c))) (i := 1))
  have s1 : fAsg (f2 gIx (f2 gAdd (fSl gSlA (f2 gIx (fVar 0) (fC (.int 3))) (fPart (f2 gIx (fVar 0) (fC (.int 2)))) fNoPart) (fL gLst (fAc (fC (.int 0)) fA0))) (fC (.int 0))) (gtName 2) ρ S = .next (ρ.set 2 (some (.d (.int c)))) S := ev_asg hc
  have v2 : (ρ.set 2 (some (W.d (.int c))))[2]? = some (some (.d (.int c))) := List.getElem?_set_self (by omega)
  have s2 : fAugAt (fVar 0) (fC (.int 2)) (gI2 (fun _ _ => true) fun i j => .int (i + j)) (fC (.int 1)) (ρ.set 2 (some (.d (.int c)))) S = .next (ρ.set 2 (some (.d (.int c)))) (S.set l ({ b with b2 := b.b2 + 1 } : Bag).so) :=
    ev_augAt (ev_var q1) rfl (bag_up hS).1 rfl (ev_I2 rfl) (bag_up hS).2
  have hS2 := at_set (u := ({ b with b2 := b.b2 + 1 } : Bag).so) hS
  have tst : fTest (f2 gGe (fVar 2) (f2 gPow (fC (.int 10)) (fC (.int 18)))) (ρ.set 2 (some (.d (.int c)))) (S.set l ({ b with b2 := b.b2 + 1 } : Bag).so) = .ok (decide (1000000000000000000 ≤ c)) (S.set l ({ b with b2 := b.b2 + 1 } : Bag).so) := by
    refine ev_test (ev_f2 (ev_var v2) (ev_f2 rfl rfl (ev_I2 (by decide))) (ev_I2 rfl))
  -- the cell put in
  have s3 : fIf (fTest (f2 gGe (fVar 2) (f2 gPow (fC (.int 10)) (fC (.int 18))))) (fStore (fVar 2) (fVar 0) (fC (.int 0))) fNext (ρ.set 2 (some (.d (.int c)))) (S.set l ({ b with b2 := b.b2 + 1 } : Bag).so)
      = .next (ρ.set 2 (some (.d (.int c)))) (S.set l ({ b with b2 := b.b2 + 1, b0 := if 1000000000000000000 ≤ c then c else 0 } : Bag).so) := by
    by_cases hc18 : 1000000000000000000 ≤ c
    · rw [decide_eq_true hc18] at tst
      rw [ev_yes tst, if_pos hc18, ev_store (ev_var v2) (ev_var q1) rfl (bag_set hS2 c).1, List.set_set]
    · rw [decide_eq_false hc18] at tst
      rw [ev_no tst, if_neg hc18]
      show RF.next _ _ = _
      congr 2
      rw [← h0]
  let b3 : Bag := { b with b2 := b.b2 + 1, b0 := if 1000000000000000000 ≤ c then c else 0 }
  have hS3 : (S.set l b3.so)[l]? = some b3.so := at_set hS
  have r3 := bag_rd q1 hS3
  have m1 : decide (b.b1.natAbs.log2 + (48271 : Int).natAbs.log2 < 1000000) = true := bag_mul (n := 31) (m := 16) (by omega) (by decide) (by decide)
  have m2 : decide ((7919 : Int).natAbs.log2 + (((b.b2 + 1 : Nat) : Int)).natAbs.log2 < 1000000) = true := bag_mul (n := 13) (m := 61) (by decide) (by rw [Int.natAbs_natCast]; omega) (by decide)
  let x : Int := b.b1 * 48271 + c % 2147483647 + 7919 * ((b.b2 + 1 : Nat) : Int)
  have s4 : fAsg (f2 gAdd (f2 gAdd (f2 gMulA (f2 gIx (fVar 0) (fC (.int 1))) (fC (.int 48271))) (f2 gMod (fL gIntA (fAc (fVar 2) fA0)) (fC (.int 2147483647)))) (f2 gMulA (fC (.int 7919)) (f2 gIx (fVar 0) (fC (.int 2))))) (gtName 3) (ρ.set 2 (some (.d (.int c)))) (S.set l b3.so)
      = .next ((ρ.set 2 (some (.d (.int c)))).set 3 (some (.d (.int x)))) (S.set l b3.so) :=
    ev_asg (ev_f2 (ev_f2 (ev_f2 r3.2.1 rfl (ev_mulA m1)) (ev_f2 (ev_L (ev_one (ev_var v2)) rfl) rfl (ev_I2 (by decide))) rfl) (ev_f2 rfl r3.2.2.1 (ev_mulA m2)) rfl)
  have q3 : ((ρ.set 2 (some (W.d (.int c)))).set 3 (some (.d (.int x))))[0]? = some (some (.loc l)) := by rw [List.getElem?_set_ne (by omega)]; exact q1
  have v3 : ((ρ.set 2 (some (W.d (.int c)))).set 3 (some (.d (.int x))))[3]? = some (some (.d (.int x))) := List.getElem?_set_self (by rw [List.length_set]; omega)
  have s5 : fStore (f2 gMod (fL gIntA (fAc (fVar 3) fA0)) (fC (.int 2147483647))) (fVar 0) (fC (.int 1)) ((ρ.set 2 (some (.d (.int c)))).set 3 (some (.d (.int x)))) (S.set l b3.so)
      = .next ((ρ.set 2 (some (.d (.int c)))).set 3 (some (.d (.int x)))) ((S.set l b3.so).set l ({ b3 with b1 := x % 2147483647 } : Bag).so) :=
    ev_store (ev_f2 (ev_L (ev_one (ev_var v3)) rfl) rfl (ev_I2 (by decide))) (ev_var q3) rfl (bag_set hS3 _).2
  refine ⟨some (.d (.int c)), some (.d (.int x)), ?_⟩
  unfold tkA
  rw [ev_seq s1, ev_seq s2, ev_seq s3, ev_seq s4, s5, List.set_set]
  have eb : b.step = { b3 with b1 := x % 2147483647 } := by
    unfold Bag.step
    rw [if_pos h0]
    show (⟨_, _, _, _⟩ : Bag) = ⟨_, _, _, _⟩
    congr 1
  rw [eb]
theorem ev_seqR {p q : FS} {ρ : Rho} {S S1 : Store} {w : W} (ep : p ρ S = .ret w S1) : fSeq p q ρ S = .ret w S1 := by unfold fSeq; rw [ep]
theorem set_same {S : Store} {l : Nat} {o : SO} (h : S[l]? = some o) : S.set l o = S := by
  refine List.ext_getElem? fun j => ?_
  by_cases e : l = j
  · subst e
    rw [at_set h, h]
  · rw [List.getElem?_set_ne e]
def tkB : FS := (fSeq (fAsg (f2 gMod (fL gIntA (fAc (f2 gIx (fVar 0) (fC (.int 0))) fA0)) (fVar 1)) (gtName 4)) (fSeq (fStore (f2 gDiv (fL gIntA (fAc (f2 gIx (fVar 0) (fC (.int 0))) fA0)) (fVar 1)) (fVar 0) (fC (.int 0))) (fRet (fVar 4))))
def tkC : FS := (fSeq (fAsg (f2 gMod (fL gIntA (fAc (f2 gMulA (f2 gAdd (f2 gIx (fVar 0) (fC (.int 1))) (fC (.int 1))) (fC (.int 39373))) fA0)) (fC (.int 1000000007))) (gtName 5)) (fSeq (fAsg (f2 gMod (fL gIntA (fAc (f2 gMulA (f2 gMod (fL gIntA (fAc (f2 gMulA (fVar 5) (fVar 5)) fA0)) (fC (.int 998244353))) (fC (.int 30011))) fA0)) (fC (.int 998244353))) (gtName 6)) (fRet (f2 gMod (fL gIntA (fAc (f2 gDiv (fVar 6) (fC (.int 7))) fA0)) (fVar 1)))))
theorem bTake_parts : bTake = fSeq (fIf (fTest (f2 gEq (f2 gIx (fVar 0) (fC (.int 0))) (fC (.int 0)))) tkA fNext) (fSeq (fIf (fTest (f2 gGt (f2 gIx (fVar 0) (fC (.int 0))) (fC (.int 0)))) tkB fNext) tkC) := rfl
/-- out of the number that is left over -/
theorem rest_run {ρ : Rho} {S : Store} {l : Nat} {b : Bag} {m : Int} (h0 : ρ[0]? = some (some (.loc l))) (h1 : ρ[1]? = some (some (.d (.int m)))) (h7 : ρ.length = 7) (hS : S[l]? = some b.so) (hm : 0 < m ∧ m < 1073741824) :
    tkB ρ S = .ret (.d (.int (b.b0 % m))) (S.set l ({ b with b0 := b.b0 / m } : Bag).so) := by
  have r := bag_rd h0 hS
  have q0 : (ρ.set 4 (some (W.d (.int (b.b0 % m)))))[0]? = some (some (.loc l)) := by rw [List.getElem?_set_ne (by omega)]; exact h0
  have q1 : (ρ.set 4 (some (W.d (.int (b.b0 % m)))))[1]? = some (some (.d (.int m))) := by rw [List.getElem?_set_ne (by omega)]; exact h1
  have q4 : (ρ.set 4 (some (W.d (.int (b.b0 % m)))))[4]? = some (some (.d (.int (b.b0 % m)))) := List.getElem?_set_self (by omega)
  have r2 := bag_rd q0 hS
  unfold tkB
  rw [ev_seq (ev_asg (ev_f2 (ev_L (ev_one r.1) rfl) (ev_var h1) (ev_I2 (decide_eq_true hm.1)))),
    ev_seq (ev_store (ev_f2 (ev_L (ev_one r2.1) rfl) (ev_var q1) (ev_I2 (decide_eq_true hm))) (ev_var q0) rfl (bag_set hS _).1)]
  exact ev_ret (ev_var q4)
/-- out of what is stirred -/
theorem stirred_run {ρ : Rho} {S : Store} {l : Nat} {b : Bag} {m : Int} (h0 : ρ[0]? = some (some (.loc l))) (h1 : ρ[1]? = some (some (.d (.int m)))) (h7 : ρ.length = 7) (hS : S[l]? = some b.so) (hb : 0 ≤ b.b1 ∧ b.b1 < 2147483647) (hm : 0 < m ∧ m < 1073741824) :
    tkC ρ S = .ret (.d (.int (((b.b1 + 1) * 39373 % 1000000007 * ((b.b1 + 1) * 39373 % 1000000007) % 998244353 * 30011 % 998244353 / 7) % m))) S := by
  have r := bag_rd h0 hS
  generalize eg : (b.b1 + 1) * 39373 % 1000000007 = g
  have g0 : 0 ≤ g ∧ g < 1000000007 := by rw [← eg]; exact ⟨Int.emod_nonneg _ (by decide), Int.emod_lt_of_pos _ (by decide)⟩
  generalize ek : g * g % 998244353 = k
  have k0 : 0 ≤ k ∧ k < 998244353 := by rw [← ek]; exact ⟨Int.emod_nonneg _ (by decide), Int.emod_lt_of_pos _ (by decide)⟩
  have m1 : decide ((b.b1 + 1).natAbs.log2 + (39373 : Int).natAbs.log2 < 1000000) = true := bag_mul (n := 32) (m := 16) (by omega) (by decide) (by decide)
  have m2 : decide (g.natAbs.log2 + g.natAbs.log2 < 1000000) = true := bag_mul (n := 30) (m := 30) (by omega) (by omega) (by decide)
  have m3 : decide (k.natAbs.log2 + (30011 : Int).natAbs.log2 < 1000000) = true := bag_mul (n := 30) (m := 16) (by omega) (by decide) (by decide)
  have v5 : (ρ.set 5 (some (W.d (.int g))))[5]? = some (some (.d (.int g))) := List.getElem?_set_self (by omega)
  have v6 : ((ρ.set 5 (some (W.d (.int g)))).set 6 (some (W.d (.int (k * 30011 % 998244353)))))[6]? = some (some (.d (.int (k * 30011 % 998244353)))) := List.getElem?_set_self (by rw [List.length_set]; omega)
  have v1 : ((ρ.set 5 (some (W.d (.int g)))).set 6 (some (W.d (.int (k * 30011 % 998244353)))))[1]? = some (some (.d (.int m))) := by rw [List.getElem?_set_ne (by omega), List.getElem?_set_ne (by omega)]; exact h1
  have a5 : fAsg (f2 gMod (fL gIntA (fAc (f2 gMulA (f2 gAdd (f2 gIx (fVar 0) (fC (.int 1))) (fC (.int 1))) (fC (.int 39373))) fA0)) (fC (.int 1000000007))) (gtName 5) ρ S = .next (ρ.set 5 (some (W.d (.int g)))) S := by
    rw [← eg]
    exact ev_asg (ev_f2 (ev_L (ev_one (ev_f2 (ev_f2 r.2.1 rfl rfl) rfl (ev_mulA m1))) rfl) rfl (ev_I2 (by decide)))
  have a6 : fAsg (f2 gMod (fL gIntA (fAc (f2 gMulA (f2 gMod (fL gIntA (fAc (f2 gMulA (fVar 5) (fVar 5)) fA0)) (fC (.int 998244353))) (fC (.int 30011))) fA0)) (fC (.int 998244353))) (gtName 6) (ρ.set 5 (some (W.d (.int g)))) S = .next ((ρ.set 5 (some (W.d (.int g)))).set 6 (some (W.d (.int (k * 30011 % 998244353))))) S := by
    refine ev_asg (ev_f2 (ev_L (ev_one (ev_f2 (ev_f2 (ev_L (ev_one (ev_f2 (ev_var v5) (ev_var v5) (ev_mulA m2))) rfl) rfl (ev_I2 (by decide))) rfl (ev_mulA ?_))) rfl) rfl ?_)
    · rw [ek]; exact m3
    · rw [ek]; exact ev_I2 (by decide)
  unfold tkC
  rw [ev_seq a5, ev_seq a6]
  exact ev_ret (ev_f2 (ev_L (ev_one (ev_f2 (ev_var v6) rfl (ev_I2 (by decide)))) rfl) (ev_var v1) (ev_I2 (decide_eq_true hm.1)))
theorem step_b1 {b : Bag} (h1 : 0 ≤ b.b1 ∧ b.b1 < 2147483647) : 0 ≤ b.step.b1 ∧ b.step.b1 < 2147483647 := by
  unfold Bag.step
  split
  · exact ⟨Int.emod_nonneg _ (by decide), Int.emod_lt_of_pos _ (by decide)⟩
  · exact h1
/-- what is taken of the bag -/
theorem take_run {S : Store} {l : Nat} {b : Bag} {m : Int} (hS : S[l]? = some b.so) (h1 : 0 ≤ b.b1 ∧ b.b1 < 2147483647) (h2 : b.b2 < 2 ^ 60) (hl : b.cs.length < 1000) (hm : 0 < m ∧ m < 1073741824) :
    runB 7 bTake [.loc l, .d (.int m)] S = .ok (.d (.int (b.take m).1)) (S.set l (b.take m).2.so) := by
  have e0 : (startR 7 [.loc l, .d (.int m)])[0]? = some (some (.loc l)) := rfl
  have e1 : (startR 7 [.loc l, .d (.int m)])[1]? = some (some (.d (.int m))) := rfl
  have e7 : (startR 7 [.loc l, .d (.int m)]).length = 7 := rfl
  -- behind the stirring
  have first : ∃ ρ, ρ[0]? = some (some (.loc l)) ∧ ρ[1]? = some (some (.d (.int m))) ∧ ρ.length = 7 ∧
      fIf (fTest (f2 gEq (f2 gIx (fVar 0) (fC (.int 0))) (fC (.int 0)))) tkA fNext (startR 7 [.loc l, .d (.int m)]) S = .next ρ (S.set l b.step.so) := by
    have tst : fTest (f2 gEq (f2 gIx (fVar 0) (fC (.int 0))) (fC (.int 0))) (startR 7 [.loc l, .d (.int m)]) S = .ok (decide (b.b0 = 0)) S := ev_test (ev_f2 (bag_rd e0 hS).1 rfl ev_eqI)
    by_cases hz : b.b0 = 0
    · rw [decide_eq_true hz] at tst
      obtain ⟨u, v, e⟩ := stir_run e0 e7 hS hz h1 h2 hl
      exact ⟨_, rfl, rfl, rfl, (ev_yes tst).trans e⟩
    · rw [decide_eq_false hz] at tst
      refine ⟨_, e0, e1, e7, (ev_no tst).trans ?_⟩
      have es : b.step = b := if_neg hz
      rw [es, set_same hS]
      rfl
  obtain ⟨ρ, r0, r1, r7, e⟩ := first
  have hS2 : (S.set l b.step.so)[l]? = some b.step.so := at_set hS
  have h1' := step_b1 h1
  unfold runB
  rw [bTake_parts, ev_seq e]
  have tst : fTest (f2 gGt (f2 gIx (fVar 0) (fC (.int 0))) (fC (.int 0))) ρ (S.set l b.step.so) = .ok (decide (0 < b.step.b0)) (S.set l b.step.so) := ev_test (ev_f2 (bag_rd r0 hS2).1 rfl (ev_I2 rfl))
  by_cases hp : 0 < b.step.b0
  · rw [decide_eq_true hp] at tst
    rw [ev_seqR ((ev_yes tst).trans (rest_run r0 r1 r7 hS2 hm)), List.set_set]
    unfold Bag.take
    rw [if_pos hp]
    rfl
  · rw [decide_eq_false hp] at tst
    rw [ev_seq ((ev_no tst).trans (show fNext ρ (S.set l b.step.so) = .next ρ (S.set l b.step.so) from rfl)), stirred_run r0 r1 r7 hS2 h1' hm]
    unfold Bag.take
    rw [if_neg hp]
    rfl
end VI
set_option Elab.async false
set_option linter.all false
set_option maxRecDepth 100000
namespace VI
open PySem PySem.Spec PyProof.Rows L2

/-! calls evaluated; one of several; several mixed -/
theorem ev_call {n : Nat} {g : List W → Store → R W} {fa : FA} {ρ : Rho} {S S1 S2 : Store} {ws : List W} {w w' : W} (ea : fa ρ S = .ok ws S1) (hn : ws.length = n) (eg : g ws S1 = .ok w S2) (hz : S2.length = S1.length) (hw : frzW S1.length S2 w = some w') : fCall n g fa ρ S = .ok w' S2 := by
  unfold fCall
  rw [ea]
  show (if ws.length = n then frz S1.length (g ws S1) else R.bad) = _
  rw [if_pos hn, eg]
  show (match frzW S1.length S2 w with | some w' => R.ok w' (S2.take S1.length) | none => R.bad) = _
  rw [hw]
  show R.ok w' (S2.take S1.length) = _
  rw [List.take_of_length_le (by omega)]
structure Bag.Fit (b : Bag) : Prop where
  h1 : 0 ≤ b.b1 ∧ b.b1 < 2147483647
  hl : b.cs.length < 1000
theorem step_cs (b : Bag) : b.step.cs = b.cs ∧ b.step.b2 ≤ b.b2 + 1 := by
  unfold Bag.step
  split
  · exact ⟨rfl, Nat.le_refl _⟩
  · exact ⟨rfl, Nat.le_succ _⟩
theorem take_facts (b : Bag) {m : Int} (hm : 0 < m) : 0 ≤ (b.take m).1 ∧ (b.take m).1 < m := by
  unfold Bag.take
  split
  · exact ⟨Int.emod_nonneg _ (by omega), Int.emod_lt_of_pos _ hm⟩
  · exact ⟨Int.emod_nonneg _ (by omega), Int.emod_lt_of_pos _ hm⟩
theorem take_fit {b : Bag} (h : b.Fit) (m : Int) : (b.take m).2.Fit ∧ (b.take m).2.b2 ≤ b.b2 + 1 := by
  have s := step_cs b
  have s1 := step_b1 h.h1
  unfold Bag.take
  split
  · exact ⟨⟨s1, by show b.step.cs.length < 1000; rw [s.1]; exact h.hl⟩, s.2⟩
  · exact ⟨⟨s1, by rw [s.1]; exact h.hl⟩, s.2⟩
/-- it takes a number -/
def Taker (g : List W → Store → R W) : Prop := ∀ (S : Store) (l : Nat) (b : Bag) (m : Int), S[l]? = some b.so → b.Fit → b.b2 < 2 ^ 60 → 0 < m ∧ m < 1073741824 → g [.loc l, .d (.int m)] S = .ok (.d (.int (b.take m).1)) (S.set l (b.take m).2.so)
theorem taker : Taker (runB 7 bTake) := fun S l b m hS h h2 hm => take_run hS h.h1 h2 h.hl hm
theorem ev_take {g : List W → Store → R W} (T : Taker g) {fa fb : FE} {ρ : Rho} {S : Store} {l : Nat} {b : Bag} {m : Int} (ea : fa ρ S = .ok (.loc l) S) (eb : fb ρ S = .ok (.d (.int m)) S) (hS : S[l]? = some b.so) (h : b.Fit) (h2 : b.b2 < 2 ^ 60) (hm : 0 < m ∧ m < 1073741824) :
    fCall 2 g (fAc fa (fAc fb fA0)) ρ S = .ok (.d (.int (b.take m).1)) (S.set l (b.take m).2.so) :=
  ev_call (ev_ac ea (ev_one eb)) rfl (T S l b m hS h h2 hm) (List.length_set ..) rfl
def bSome (tk : List W → Store → R W) : FS := (fRet (f2 gIx (fVar 1) (fCall 2 tk (fAc (fVar 0) (fAc (fL gLen (fAc (fVar 1) fA0)) fA0)))))
theorem atI_in {α : Type} {xs : List α} {i : Int} (h0 : 0 ≤ i) (h1 : i < xs.length) : atI xs i = xs[i.toNat]? := by
  unfold atI ixN
  rw [if_pos h0, if_pos h1]
  rfl
/-- one of several -/
def pick (b : Bag) (ds : List PyData) : PyData := ds.getD (b.take ds.length).1.toNat .none
theorem pick_mem {b : Bag} {ds : List PyData} (h : 0 < ds.length) : pick b ds ∈ ds := by
  have f := take_facts b (m := ds.length) (by omega)
  unfold pick
  rw [List.getD_eq_getElem?_getD, List.getElem?_eq_getElem (by omega)]
  exact List.getElem_mem _
theorem some_run {tk : List W → Store → R W} (T : Taker tk) {S : Store} {l : Nat} {b : Bag} {ds : List PyData} (hS : S[l]? = some b.so) (h : b.Fit) (h2 : b.b2 < 2 ^ 60) (hd : 0 < ds.length ∧ ds.length < 1073741824) :
    runB 2 (bSome tk) [.loc l, .d (.list ds)] S = .ok (.d (pick b ds)) (S.set l (b.take ds.length).2.so) := by
  have f := take_facts b (m := ds.length) (by omega)
  have hp : ds[(b.take ds.length).1.toNat]? = some (pick b ds) := by
    unfold pick
    rw [List.getD_eq_getElem?_getD, List.getElem?_eq_getElem (by omega)]
    rfl
  have e : bSome tk (startR 2 [.loc l, .d (.list ds)]) S = .ret (.d (pick b ds)) (S.set l (b.take ds.length).2.so) := by
    refine ev_ret (ev_f2 (ev_var (x := .d (.list ds)) rfl) (ev_take (m := ds.length) T (ev_var rfl) (ev_L (ev_one (ev_var (x := .d (.list ds)) rfl)) rfl) hS h h2 ⟨by omega, by omega⟩) ?_)
    show (atI ds _).map _ = _
    rw [atI_in f.1 f.2, hp]
    rfl
  unfold runB
  rw [e]
  rfl
/-! several, mixed -/
def mixP : Bag → List PyData → List PyData → List PyData × Bag
  | b, acc, [] => (acc, b)
  | b, acc, d :: ds => mixP (b.take ((acc.length : Int) + 1)).2 (acc.take (b.take ((acc.length : Int) + 1)).1.toNat ++ [d] ++ acc.drop (b.take ((acc.length : Int) + 1)).1.toNat) ds
theorem mixP_cons (b : Bag) (acc : List PyData) (d : PyData) (ds : List PyData) : mixP b acc (d :: ds) = mixP (b.take ((acc.length : Int) + 1)).2 (acc.take (b.take ((acc.length : Int) + 1)).1.toNat ++ [d] ++ acc.drop (b.take ((acc.length : Int) + 1)).1.toNat) ds := rfl
theorem mix_perm : ∀ (ds acc : List PyData) (b : Bag), ((mixP b acc ds).1).Perm (ds ++ acc)
  | [], acc, b => List.Perm.refl _
  | d :: ds, acc, b => by
    unfold mixP
    refine (mix_perm ds _ _).trans ?_
    have e : (acc.take (b.take ((acc.length : Int) + 1)).1.toNat ++ [d] ++ acc.drop (b.take ((acc.length : Int) + 1)).1.toNat).Perm (d :: acc) := by
      rw [List.append_assoc]
      show (acc.take (b.take ((acc.length : Int) + 1)).1.toNat ++ d :: acc.drop (b.take ((acc.length : Int) + 1)).1.toNat).Perm (d :: acc)
      refine List.perm_middle.trans ?_
      rw [List.take_append_drop]
    exact (List.Perm.append_left ds e).trans List.perm_middle
theorem mix_fit : ∀ (ds acc : List PyData) (b : Bag), b.Fit → (mixP b acc ds).2.Fit ∧ (mixP b acc ds).2.b2 ≤ b.b2 + ds.length
  | [], acc, b, h => ⟨h, Nat.le_refl _⟩
  | d :: ds, acc, b, h => by
    unfold mixP
    have f := take_fit h ((acc.length : Int) + 1)
    have r := mix_fit ds (acc.take (b.take ((acc.length : Int) + 1)).1.toNat ++ [d] ++ acc.drop (b.take ((acc.length : Int) + 1)).1.toNat) _ f.1
    refine ⟨r.1, ?_⟩
    rw [List.length_cons]
    have := r.2
    have := f.2
    omega
def mixBody (tk : List W → Store → R W) : FS := (fDrop (fMeth mInsert (fVar 2) (fAc (fCall 2 tk (fAc (fVar 0) (fAc (f2 gAdd (fL gLen (fAc (fVar 2) fA0)) (fC (.int 1))) fA0))) (fAc (fVar 3) fA0))))
noncomputable def bMixed (tk : List W → Store → R W) : FS := (fSeq (fAsg (fL gLive fA0) (gtName 2)) (fSeq (fFor (fItS (fVar 1)) (gtName 3) (mixBody tk)) (fRet (fVar 2))))
theorem ev_drop {a : FE} {ρ : Rho} {S S1 : Store} {x : W} (ea : a ρ S = .ok x S1) : fDrop a ρ S = .next ρ S1 := by unfold fDrop; rw [ea]; rfl
theorem ev_meth {g : GM} {o : FE} {fa : FA} {ρ : Rho} {S S1 S2 S3 : Store} {w z : W} {ws : List W} (eo : o ρ S = .ok w S1) (hl : liveB w S1 = true) (ea : fa ρ S1 = .ok ws S2) (eg : g w ws S2 = some (z, S3)) : fMeth g o fa ρ S = .ok z S3 := by
  unfold fMeth
  rw [eo]
  show (if liveB w S1 = true then (fa ρ S1).bind _ else R.bad) = _
  rw [if_pos hl, ea]
  show lift (g w ws S2) = _
  rw [eg]
  rfl
/-- one turn: the bag at l, the new list at n -/
theorem mix_turn {tk : List W → Store → R W} (T : Taker tk) {ρ : Rho} {S : Store} {l n : Nat} {b : Bag} {acc : List PyData} {d : PyData} (ne : l ≠ n) (h0 : ρ[0]? = some (some (.loc l))) (h2 : ρ[2]? = some (some (.loc n))) (h3 : ρ[3]? = some (some (.d d)))
    (hS : S[l]? = some b.so) (hN : S[n]? = some (.lst acc)) (hf : b.Fit) (hb : b.b2 < 2 ^ 60) (hz : acc.length < 1000000) :
    mixBody tk ρ S = .next ρ ((S.set l (b.take ((acc.length : Int) + 1)).2.so).set n (.lst (acc.take (b.take ((acc.length : Int) + 1)).1.toNat ++ [d] ++ acc.drop (b.take ((acc.length : Int) + 1)).1.toNat))) := by
  have f := take_facts b (m := (acc.length : Int) + 1) (by omega)
  have hN2 : (S.set l (b.take ((acc.length : Int) + 1)).2.so)[n]? = some (.lst acc) := by rw [List.getElem?_set_ne ne]; exact hN
  have ln : fL gLen (fAc (fVar 2) fA0) ρ S = .ok (.d (.int acc.length)) S := ev_L (ev_one (ev_var h2)) (by simp only [gLen, asSeq, hN])
  have tk1 := ev_take (fb := f2 gAdd (fL gLen (fAc (fVar 2) fA0)) (fC (.int 1))) (m := (acc.length : Int) + 1) T (ev_var h0) (ev_f2 ln rfl rfl) hS hf hb ⟨by omega, by omega⟩
  refine ev_drop (ev_meth (ev_var h2) (by simp only [liveB, hN]) (ev_ac tk1 (ev_one (ev_var h3))) (z := .d .none) ?_)
  unfold mInsert
  simp only [hN2]
  rw [if_pos ⟨Nat.lt_of_lt_of_le hz (by decide), f.1, by omega⟩]
theorem mix_loop {tk : List W → Store → R W} (T : Taker tk) {l n : Nat} {ok : Store → Prop} (hok : ∀ S, ok S) (ne : l ≠ n) : ∀ (ds acc : List PyData) (b : Bag) (ρ : Rho) (S : Store), ρ[0]? = some (some (.loc l)) → ρ[2]? = some (some (.loc n)) → ρ.length = 4 → S[l]? = some b.so → S[n]? = some (.lst acc) → b.Fit → b.b2 + ds.length < 2 ^ 60 → acc.length + ds.length < 1000000 →
    ∃ ρ', ρ'[2]? = some (some (.loc n)) ∧ forL ok (gtName 3) (mixBody tk) (ds.map W.d) ρ S = .next ρ' ((S.set l (mixP b acc ds).2.so).set n (.lst (mixP b acc ds).1))
  | [], acc, b, ρ, S, h0, h2, h4, hS, hN, hf, hb, hz => by
    refine ⟨ρ, h2, ?_⟩
    show forL ok (gtName 3) (mixBody tk) [] ρ S = _
    rw [forL, if_pos (hok S)]
    show RF.next ρ S = .next ρ ((S.set l b.so).set n (.lst acc))
    rw [set_same hS, set_same hN]
  | d :: ds, acc, b, ρ, S, h0, h2, h4, hS, hN, hf, hb, hz => by
    rw [List.length_cons] at hb hz
    have k0 : (ρ.set 3 (some (W.d d)))[0]? = some (some (.loc l)) := by rw [List.getElem?_set_ne (by omega)]; exact h0
    have k2 : (ρ.set 3 (some (W.d d)))[2]? = some (some (.loc n)) := by rw [List.getElem?_set_ne (by omega)]; exact h2
    have k3 : (ρ.set 3 (some (W.d d)))[3]? = some (some (.d d)) := List.getElem?_set_self (by omega)
    have tn := mix_turn T ne k0 k2 k3 hS hN hf (by omega) (by omega)
    have f := take_fit hf ((acc.length : Int) + 1)
    have fa := take_facts b (m := (acc.length : Int) + 1) (by omega)
    generalize eb : (b.take ((acc.length : Int) + 1)).2 = b2 at tn f
    generalize ei : acc.take (b.take ((acc.length : Int) + 1)).1.toNat ++ [d] ++ acc.drop (b.take ((acc.length : Int) + 1)).1.toNat = acc2 at tn
    have la : acc2.length = acc.length + 1 := by
      rw [← ei]
      simp only [List.length_append, List.length_take, List.length_drop, List.length_cons, List.length_nil]
      omega
    have s1 : ((S.set l b2.so).set n (.lst acc2))[l]? = some b2.so := by rw [List.getElem?_set_ne (Ne.symm ne)]; exact at_set hS
    have s2 : ((S.set l b2.so).set n (.lst acc2))[n]? = some (.lst acc2) := at_set (o := .lst acc) (by rw [List.getElem?_set_ne ne]; exact hN)
    obtain ⟨ρ', g2, e⟩ := mix_loop T hok ne ds acc2 b2 (ρ.set 3 (some (.d d))) ((S.set l b2.so).set n (.lst acc2)) k0 k2 (by rw [List.length_set]; exact h4) s1 s2 f.1 (by omega) (by omega)
    refine ⟨ρ', g2, ?_⟩
    show forL ok (gtName 3) (mixBody tk) (.d d :: ds.map W.d) ρ S = _
    rw [forL, if_pos (hok S)]
    show (match mixBody tk (ρ.set 3 (some (.d d))) S with
      | .next ρ2 S2 => forL ok (gtName 3) (mixBody tk) (ds.map W.d) ρ2 S2
      | .cnt ρ2 S2 => forL ok (gtName 3) (mixBody tk) (ds.map W.d) ρ2 S2
      | .brk ρ2 S2 => .next ρ2 S2
      | r => r) = _
    rw [tn]
    show forL ok (gtName 3) (mixBody tk) (ds.map W.d) _ _ = _
    rw [e]
    rw [mixP_cons, eb, ei, List.set_comm (l := S.set l b2.so) _ _ (Ne.symm ne), List.set_set, List.set_set]
theorem push_at {S : Store} {o : SO} : (S ++ [o])[S.length]? = some o := by rw [List.getElem?_append_right (Nat.le_refl _)]; simp
theorem push_old {S : Store} {o u : SO} {l : Nat} (h : S[l]? = some u) : (S ++ [o])[l]? = some u := by rw [List.getElem?_append_left (List.getElem?_eq_some_iff.mp h).1]; exact h
theorem mixed_run {tk : List W → Store → R W} (T : Taker tk) {S : Store} {l : Nat} {b : Bag} {ds : List PyData} (hS : S[l]? = some b.so) (hf : b.Fit) (hb : b.b2 + ds.length < 2 ^ 60) (hz : ds.length < 1000000) :
    runB 4 (bMixed tk) [.loc l, .d (.list ds)] S = .ok (.loc S.length) (S.set l (mixP b [] ds).2.so ++ [.lst (mixP b [] ds).1]) := by
  have hl : l < S.length := (List.getElem?_eq_some_iff.mp hS).1
  have e1 : fAsg (fL gLive fA0) (gtName 2) (startR 4 [.loc l, .d (.list ds)]) S = .next ((startR 4 [.loc l, .d (.list ds)]).set 2 (some (.loc S.length))) (S ++ [.lst []]) := ev_asg (ev_L (show fA0 _ S = .ok [] S from rfl) rfl)
  obtain ⟨ρ', k2, e2⟩ := mix_loop T (ok := fun _ => True) (fun _ => trivial) (Nat.ne_of_lt hl) ds [] b ((startR 4 [.loc l, .d (.list ds)]).set 2 (some (.loc S.length))) (S ++ [.lst []]) rfl rfl rfl (push_old hS) push_at hf hb (by simpa using hz)
  have e3 : fFor (fItS (fVar 1)) (gtName 3) (mixBody tk) ((startR 4 [.loc l, .d (.list ds)]).set 2 (some (.loc S.length))) (S ++ [.lst []]) = .next ρ' (((S ++ [SO.lst []]).set l (mixP b [] ds).2.so).set S.length (.lst (mixP b [] ds).1)) := e2
  have es : ((S ++ [SO.lst []]).set l (mixP b [] ds).2.so).set S.length (.lst (mixP b [] ds).1) = S.set l (mixP b [] ds).2.so ++ [.lst (mixP b [] ds).1] := by
    rw [List.set_append_left _ _ hl, List.set_append_right _ _ (by rw [List.length_set]; exact Nat.le_refl _), List.length_set, Nat.sub_self]
    rfl
  unfold runB bMixed
  rw [ev_seq e1, ev_seq e3, ev_ret (ev_var k2), es]
  rfl
/-- as it is called -/
theorem ev_mixed {tk g : List W → Store → R W} (T : Taker tk) (hg : ∀ ws S, g ws S = runB 4 (bMixed tk) ws S) {fa fb : FE} {ρ : Rho} {S : Store} {l : Nat} {b : Bag} {ds : List PyData} (ea : fa ρ S = .ok (.loc l) S) (eb : fb ρ S = .ok (.d (.list ds)) S)
    (hS : S[l]? = some b.so) (hf : b.Fit) (hb : b.b2 + ds.length < 2 ^ 60) (hz : ds.length < 1000000) : fCall 2 g (fAc fa (fAc fb fA0)) ρ S = .ok (.d (.list (mixP b [] ds).1)) (S.set l (mixP b [] ds).2.so) := by
  unfold fCall
  rw [ev_ac ea (ev_one eb)]
  show (if [W.loc l, .d (.list ds)].length = 2 then frz S.length (g _ S) else R.bad) = _
  rw [if_pos (show [W.loc l, .d (.list ds)].length = 2 from rfl), hg, mixed_run T hS hf hb hz]
  show (match frzW S.length _ (.loc S.length) with | some w' => R.ok w' (List.take S.length _) | none => R.bad) = _
  have e : frzW S.length (S.set l (mixP b [] ds).2.so ++ [.lst (mixP b [] ds).1]) (.loc S.length) = some (.d (.list (mixP b [] ds).1)) := by
    unfold frzW
    rw [if_neg (Nat.lt_irrefl _)]
    have z : (S.set l (mixP b [] ds).2.so ++ [SO.lst (mixP b [] ds).1])[S.length]? = some (.lst (mixP b [] ds).1) := by
      have := push_at (S := S.set l (mixP b [] ds).2.so) (o := .lst (mixP b [] ds).1)
      rw [List.length_set] at this
      exact this
    rw [z]
  rw [e]
  show R.ok _ (List.take S.length _) = _
  rw [List.take_append_of_le_length (by rw [List.length_set]; exact Nat.le_refl _), List.take_of_length_le (by rw [List.length_set]; exact Nat.le_refl _)]
theorem ev_some {tk g : List W → Store → R W} (T : Taker tk) (hg : ∀ ws S, g ws S = runB 2 (bSome tk) ws S) {fa fb : FE} {ρ : Rho} {S : Store} {l : Nat} {b : Bag} {ds : List PyData} (ea : fa ρ S = .ok (.loc l) S) (eb : fb ρ S = .ok (.d (.list ds)) S)
    (hS : S[l]? = some b.so) (hf : b.Fit) (hb : b.b2 < 2 ^ 60) (hz : 0 < ds.length ∧ ds.length < 1073741824) : fCall 2 g (fAc fa (fAc fb fA0)) ρ S = .ok (.d (pick b ds)) (S.set l (b.take ds.length).2.so) :=
  ev_call (ev_ac ea (ev_one eb)) rfl ((hg _ _).trans (some_run T hS hf hb hz)) (List.length_set ..) rfl
end VI
set_option Elab.async false
set_option linter.all false
set_option maxRecDepth 100000
namespace VI
open PySem PySem.Spec PyProof.Rows L2

/-! evaluating: texts and numbers -/
abbrev tx (a : List Nat) : Str := ⟨a.toArray⟩
abbrev st (a : List Nat) : W := .d (.str (tx a))
abbrev nt (n : Nat) : W := .d (.int (n : Int))
abbrev bt (b : Bool) : W := .d (.bool b)
theorem R_ok {α β : Type} {a : α} {S : Store} {k : α → Store → R β} : (R.ok a S).bind k = k a S := rfl
theorem toS_ok {α : Type} {a : α} {S : Store} {ρ : Rho} {k : α → Store → RF} : toS ρ (R.ok a S) k = k a S := rfl
theorem lift_some {w : W} {S : Store} : lift (some (w, S)) = .ok w S := rfl
theorem boolW_ok {b : Bool} {S : Store} : boolW (.d (.bool b)) S = .ok b S := rfl
theorem truR_b {b : Bool} {S : Store} : truR (.d (.bool b)) S = .ok b S := rfl
theorem len_tx (a : List Nat) : (tx a).length = a.length := by simp [Str.length]
section
variable {S : Store} {a b : List Nat} {i j c : Nat}
theorem g_ix (h : a[i]? = some c) (hl : a.length ≤ lim) : gIx (st a) (nt i) S = some (st [c], S) := by
  have hi : i < a.length := (List.getElem?_eq_some_iff.mp h).1
  show (if (tx a).length ≤ lim then (atI (tx a).cps.toList (i : Int)).map fun c => (W.d (.str ⟨#[c]⟩), S) else none) = _
  rw [len_tx, if_pos hl]
  show ((atI a (i : Int)).map fun c => (W.d (.str ⟨#[c]⟩), S)) = _
  rw [atI_in (by omega) (by omega), Int.toNat_natCast, h]
  rfl
theorem g_in : gInA (st [c]) (st b) S = some (bt (decide (c ∈ b)), S) := by
  have e2 := SX.in_one b c
  show some (bt (!(Builtin.Str.occurrences (tx b) (tx [c]) 0 (tx b).length 1).isEmpty), S) = _
  rw [e2]
theorem g_len (hl : a.length ≤ lim) : gLen [st a] S = some (nt a.length, S) := by
  show (if (tx a).length ≤ lim then some (W.d (.int ((tx a).length : Int)), S) else none) = _
  rw [len_tx, if_pos hl]
theorem g_lt : gLt (nt i) (nt j) S = some (bt (decide (i < j)), S) := by
  show some (bt (decide ((i : Int) < (j : Int))), S) = _
  congr 3
  simp only [Int.ofNat_lt]
theorem g_gt : gGt (nt i) (nt j) S = some (bt (decide (j < i)), S) := by
  show some (bt (decide ((j : Int) < (i : Int))), S) = _
  congr 3
  simp only [Int.ofNat_lt]
theorem g_le : gLe (nt i) (nt j) S = some (bt (decide (i ≤ j)), S) := by
  show some (bt (decide ((i : Int) ≤ (j : Int))), S) = _
  congr 3
  simp only [Int.ofNat_le]
theorem g_add : gAdd (nt i) (nt j) S = some (nt (i + j), S) := rfl
theorem g_inc : gI2 (fun _ _ => true) (fun i j => PyData.int (i + j)) (nt i) (nt j) S = some (nt (i + j), S) := rfl
theorem g_inc1 : gI2 (fun _ _ => true) (fun i j => PyData.int (i + j)) (nt i) (.d (.int 1)) S = some (nt (i + 1), S) := rfl
theorem g_add1 : gAdd (nt i) (.d (.int 1)) S = some (nt (i + 1), S) := rfl
theorem g_add2 : gAdd (nt i) (.d (.int 2)) S = some (nt (i + 2), S) := rfl
theorem g_cat (hl : a.length + b.length ≤ lim) : gAdd (st a) (st b) S = some (st (a ++ b), S) := by
  show (if (tx a).length + (tx b).length ≤ lim then some (W.d (.str (tx a ++ tx b)), S) else none) = _
  rw [len_tx, len_tx, if_pos hl]
  have e : tx a ++ tx b = tx (a ++ b) := SX.S_cat a b
  rw [e]
/-- signs that there are -/
def okc (a : List Nat) : Bool := a.all (· < 1114112)
theorem strOk_tx (h : okc a = true) : PyData.strOk (tx a) = true := by
  unfold PyData.strOk
  rw [← Array.all_toList]
  exact h
theorem shaped_tx (h : okc a = true) : SeqAt.shaped (.str (tx a)) = true := by
  unfold SeqAt.shaped
  have e : PyData.canLay0 (.str (tx a)) = true := strOk_tx h
  rw [e]
  rfl
theorem eqv_tx : PyData.eqv (.str (tx a)) (.str (tx b)) = decide (a = b) := by
  show (tx a == tx b) = _
  exact SX.S_beq_eq
theorem g_eqs (ha : okc a = true) (hb : okc b = true) : gEq (st a) (st b) S = some (bt (decide (a = b)), S) := by
  show some (bt (tx a == tx b), S) = _
  have e : (tx a == tx b) = decide (a = b) := SX.S_beq_eq
  rw [e]
theorem g_nes (ha : okc a = true) (hb : okc b = true) : gNe (st a) (st b) S = some (bt (!decide (a = b)), S) := by
  show some (bt (!(tx a == tx b)), S) = _
  have e : (tx a == tx b) = decide (a = b) := SX.S_beq_eq
  rw [e]
theorem cut_tx {lo hi : Option Int} : cutS (tx a) lo hi = tx ((a.drop (HT.sIx a.length 0 lo)).take (HT.sIx a.length a.length hi - HT.sIx a.length 0 lo)) := by
  unfold cutS
  rw [len_tx]
theorem take_min (l : List Nat) (i j : Nat) : (l.drop (min i l.length)).take (min j l.length - min i l.length) = (l.drop i).take (j - i) := by
  by_cases h : i ≤ l.length
  · rw [Nat.min_eq_left h]
    by_cases h2 : j ≤ l.length
    · rw [Nat.min_eq_left h2]
    · rw [Nat.min_eq_right (a := j) (by omega)]
      rw [List.take_of_length_le (i := l.length - i) (by rw [List.length_drop]; omega), List.take_of_length_le (by rw [List.length_drop]; omega)]
  · rw [List.drop_of_length_le (i := i) (by omega), Nat.min_eq_right (a := i) (by omega), List.drop_of_length_le (Nat.le_refl _), List.take_nil, List.take_nil]
theorem g_sl (hl : a.length ≤ lim) : gSlA (st a) (some (i : Int)) (some (j : Int)) S = some (st ((a.drop i).take (j - i)), S) := by
  show (if (tx a).length ≤ lim then some (W.d (.str (cutS (tx a) (some (i : Int)) (some (j : Int)))), S) else none) = _
  rw [len_tx, if_pos hl, cut_tx, HT.sIx_nat, HT.sIx_nat, take_min]
theorem g_sl1 (hl : a.length ≤ lim) : gSlA (st a) (some (i : Int)) (some ((i + 1 : Nat) : Int)) S = some (st ((a.drop i).take 1), S) := by
  rw [g_sl hl, Nat.add_sub_cancel_left]
theorem g_sl2 (hl : a.length ≤ lim) : gSlA (st a) (some (i : Int)) (some ((i + 2 : Nat) : Int)) S = some (st ((a.drop i).take 2), S) := by
  rw [g_sl hl, Nat.add_sub_cancel_left]
theorem g_sf (hl : a.length ≤ lim) : gSlA (st a) (some (i : Int)) none S = some (st (a.drop i), S) := by
  show (if (tx a).length ≤ lim then some (W.d (.str (cutS (tx a) (some (i : Int)) none)), S) else none) = _
  rw [len_tx, if_pos hl, cut_tx, HT.sIx_nat, HT.sIx_none]
  by_cases h : i ≤ a.length
  · rw [Nat.min_eq_left h, List.take_of_length_le (by rw [List.length_drop]; omega)]
  · rw [Nat.min_eq_right (by omega), List.drop_of_length_le (Nat.le_refl _), List.take_nil, List.drop_of_length_le (by omega)]
end
/-- a call that hands back pure data -/
theorem ev_cd {n : Nat} {g : List W → Store → R W} {fa : FA} {ρ : Rho} {S S1 S2 : Store} {ws : List W} {x : PyData} (ea : fa ρ S = .ok ws S1) (eg : g ws S1 = .ok (.d x) S2) (hn : ws.length = n := by rfl) : fCall n g fa ρ S = .ok (.d x) (S2.take S1.length) := by
  unfold fCall
  rw [ea]
  show (if ws.length = n then frz S1.length (g ws S1) else R.bad) = _
  rw [if_pos hn, eg]
  rfl
/-- .. and leaves the store -/
theorem fcall_same {n : Nat} {g : List W → Store → R W} {ws : List W} {S : Store} {x : PyData} (eg : g ws S = .ok (.d x) S) (hn : ws.length = n) : (if ws.length = n then frz S.length (g ws S) else R.bad) = .ok (.d x) S := by
  rw [if_pos hn, eg]
  show R.ok _ (S.take S.length) = _
  rw [List.take_length]
theorem while_step {c : FT} {b : FS} {n : Nat} {ρ : Rho} {S : Store} : whileL c b (n + 1) ρ S = toS ρ (c ρ S) fun k S1 => if k = true then (match b ρ S1 with
    | .next ρ2 S2 => whileL c b n ρ2 S2
    | .cnt ρ2 S2 => whileL c b n ρ2 S2
    | .brk ρ2 S2 => .next ρ2 S2
    | r => r) else .next ρ S1 := rfl
end VI
set_option Elab.async false
set_option linter.all false
set_option maxRecDepth 100000
namespace VI
open PySem PySem.Spec PyProof.Rows L2

structure Fine (d : PyData) : Prop where
  sh : SeqAt.shaped d = true
  sw : d.showable = true
  ln : d.shown.length ≤ lim
theorem gEq_same {w u : W} {d : PyData} {S : Store} (hw : asD w S = some d) (hu : asD u S = some d) (h : SeqAt.shaped d = true) : gEq w u S = some (bt true, S) := by
  have eD : gEqD w u S = some (bt true, S) := by
    unfold gEqD
    rw [hw, hu]
    show (if SeqAt.shaped d = true ∧ SeqAt.shaped d = true then some (bt (PyData.eqv d d), S) else none) = _
    rw [if_pos ⟨h, h⟩, SeqAt.eqv_refl d (SeqAt.canLay_of_shaped h)]
  unfold gEq
  cases e : gEqS w u S with
  | none => exact eD
  | some p =>
    unfold gEqS at e
    split at e
    · rename_i x y
      rw [asD] at hw hu
      cases hw
      cases hu
      rw [beq_self_eq_true] at e
      cases e
      rfl
    · cases e
theorem gRepr_fine {w : W} {d : PyData} {S : Store} (hw : asD w S = some d) (h : Fine d) : gRepr [w] S = some (.d (.str d.shown), S) := by
  show (match asD w S with | some d => if d.showable = true ∧ d.hasDict = false ∧ d.depth ≤ 64 ∧ d.shown.length ≤ lim then some (W.d (.str d.shown), S) else none | none => none) = _
  rw [hw]
  show (if d.showable = true ∧ d.hasDict = false ∧ d.depth ≤ 64 ∧ d.shown.length ≤ lim then some (W.d (.str d.shown), S) else none) = _
  rw [if_pos ⟨h.sw, noD_of h.sh, SeqAt.depth_of_shaped h.sh, h.ln⟩]
def BG (S : Store) (l N : Nat) : Prop := ∃ b : Bag, S[l]? = some b.so ∧ b.Fit ∧ b.b2 ≤ N
theorem BG.lt {S : Store} {l N : Nat} (h : BG S l N) : l < S.length := by
  obtain ⟨b, h, _⟩ := h
  exact (List.getElem?_eq_some_iff.mp h).1
theorem BG.mono {S : Store} {l N M : Nat} (h : BG S l N) (m : N ≤ M) : BG S l M := by
  obtain ⟨b, h1, h2, h3⟩ := h
  exact ⟨b, h1, h2, by omega⟩
theorem BG.of {S S' : Store} {l N : Nat} (h : BG S l N) (e : S'[l]? = S[l]?) : BG S' l N := by
  obtain ⟨b, h1, h2, h3⟩ := h
  exact ⟨b, by rw [e]; exact h1, h2, h3⟩
theorem BG.push {S : Store} {l N : Nat} (h : BG S l N) (o : SO) : BG (S ++ [o]) l N := h.of (List.getElem?_append_left h.lt)
theorem BG.take {S : Store} {l N n : Nat} (h : BG S l N) (m : l < n) : BG (S.take n) l N := h.of (List.getElem?_take_of_lt m)
theorem BG.setne {S : Store} {l N j : Nat} {o : SO} (h : BG S l N) (m : j ≠ l) : BG (S.set j o) l N := h.of (List.getElem?_set_ne m)
theorem fcall_len {n : Nat} {g : List W → Store → R W} {ws : List W} {S S' : Store} {x : PyData} (eg : g ws S = .ok (.d x) S') (hz : S'.length = S.length) (hn : ws.length = n) : (if ws.length = n then frz S.length (g ws S) else R.bad) = .ok (.d x) S' := by
  rw [if_pos hn, eg]
  show R.ok _ (S'.take S.length) = _
  rw [List.take_of_length_le (by omega)]
theorem noX_ok {α : Type} {a : α} {S : Store} : noX (R.ok a S) = R.ok a S := rfl
theorem bag_loop {l : Nat} : ∀ (zs : List Int) (acc : List PyData) (ρ : Rho) (S : Store), ρ.length = 2 → S[l]? = some (.lst acc) → acc.length + zs.length < lim →
    lcL (fun _ => True) (gtName 1) fYes (fL gAbs (fAc (fVar 1) fA0)) ρ l (zs.map fun z => W.d (.int z)) S = .ok (.loc l) (S.set l (.lst (acc ++ zs.map fun z => .int (if z < 0 then -z else z))))
  | [], acc, ρ, S, hr, hS, _ => by
    simp only [List.map_nil, lcL, if_true, List.append_nil]
    rw [set_same hS]
  | z :: zs, acc, ρ, S, hr, hS, hz => by
    rw [List.length_cons] at hz
    have ea : fL gAbs (fAc (fVar 1) fA0) (ρ.set 1 (some (.d (.int z)))) S = .ok (.d (.int (if z < 0 then -z else z))) S := ev_L (ev_one (ev_var (List.getElem?_set_self (by omega)))) rfl
    have pt : lcPut l (.d (.int (if z < 0 then -z else z))) S = some (S.set l (.lst (acc ++ [.int (if z < 0 then -z else z)]))) := by
      simp only [lcPut, hS, if_pos (show acc.length < lim by omega)]
    have ih := bag_loop (l := l) zs (acc ++ [.int (if z < 0 then -z else z)]) ρ (S.set l (.lst (acc ++ [.int (if z < 0 then -z else z)]))) hr (at_set hS) (by rw [List.length_append, List.length_singleton]; omega)
    have fz : frz S.length (.ok (.d (.int (if z < 0 then -z else z))) S : R W) = .ok (.d (.int (if z < 0 then -z else z))) S := by
      show R.ok _ (S.take S.length) = _
      rw [List.take_length]
    rw [List.map_cons, lcL, if_pos trivial]
    simp only [gtName, noX_ok, fYes, R_ok, if_true, ea, fz, pt]
    rw [ih, List.set_set, List.append_assoc]
    rfl
theorem fcall_at {n : Nat} {g : List W → Store → R W} {fa : FA} {ρ : Rho} {S S1 S' : Store} {ws : List W} {x : PyData} (ea : fa ρ S = .ok ws S1) (eg : g ws S1 = .ok (.d x) S') (hz : S'.length = S1.length) (hn : ws.length = n) : fCall n g fa ρ S = .ok (.d x) S' := by
  unfold fCall
  rw [ea]
  exact fcall_len eg hz hn
theorem for_inv {I : Nat → Rho → Store → Prop} {i : Nat} {b : FS} (step : ∀ j w ρ S, I j ρ S → ∃ ρ' S', b (ρ.set i (some w)) S = .next ρ' S' ∧ I (j + 1) ρ' S') :
    ∀ (ws : List W) (j : Nat) (ρ : Rho) (S : Store), I j ρ S → ∃ ρ' S', forL (fun _ => True) (gtName i) b ws ρ S = .next ρ' S' ∧ I (j + ws.length) ρ' S'
  | [], j, ρ, S, h => ⟨ρ, S, by simp only [forL, if_true], h⟩
  | w :: ws, j, ρ, S, h => by
    obtain ⟨ρ1, S1, e1, h1⟩ := step j w ρ S h
    obtain ⟨ρ2, S2, e2, h2⟩ := for_inv step ws (j + 1) ρ1 S1 h1
    refine ⟨ρ2, S2, ?_, by rw [List.length_cons]; rw [show j + (ws.length + 1) = j + 1 + ws.length by omega]; exact h2⟩
    rw [forL, if_pos trivial]
    simp only [gtName, e1]
    exact e2
theorem rangeW_len (lo : Int) (n : Nat) : (rangeW lo n).length = n := by unfold rangeW; rw [List.length_map, List.length_range]
theorem for_invB {I : Nat → Rho → Store → Prop} {i m : Nat} {b : FS} (step : ∀ j w ρ S, j < m → I j ρ S → ∃ ρ' S', b (ρ.set i (some w)) S = .next ρ' S' ∧ I (j + 1) ρ' S') :
    ∀ (ws : List W) (j : Nat) (ρ : Rho) (S : Store), j + ws.length ≤ m → I j ρ S → ∃ ρ' S', forL (fun _ => True) (gtName i) b ws ρ S = .next ρ' S' ∧ I (j + ws.length) ρ' S'
  | [], j, ρ, S, _, h => ⟨ρ, S, by simp only [forL, if_true], h⟩
  | w :: ws, j, ρ, S, hm, h => by
    rw [List.length_cons] at hm
    obtain ⟨ρ1, S1, e1, h1⟩ := step j w ρ S (by omega) h
    obtain ⟨ρ2, S2, e2, h2⟩ := for_invB step ws (j + 1) ρ1 S1 (by omega) h1
    refine ⟨ρ2, S2, ?_, by rw [List.length_cons]; rw [show j + (ws.length + 1) = j + 1 + ws.length by omega]; exact h2⟩
    rw [forL, if_pos trivial]
    simp only [gtName, e1]
    exact e2
theorem rng_at {S : Store} (k : Nat) (h : k < 1000) : rng1 [nt k] S = .ok ⟨rangeW 0 k, fun _ => True⟩ S := by
  have hf : fit62 (k : Int) = true := by
    unfold fit62
    rw [Bool.and_eq_true, decide_eq_true_eq, decide_eq_true_eq]
    omega
  unfold rng1
  simp only [hf, if_true, Int.toNat_natCast]
theorem rng_nat {ρ : Rho} {S : Store} (k : Nat) (h : k < 1000) {i : Int} (e : i = (k : Int) := by rfl) : fRng rng1 (fAc (fC (.int i)) fA0) ρ S = .ok ⟨rangeW 0 k, fun _ => True⟩ S := by
  have e1 : fRng rng1 (fAc (fC (.int i)) fA0) ρ S = rng1 [.d (.int i)] S := rfl
  rw [e1, e]
  exact rng_at k h
/-! the law's own functions, whatever their numbers are -/
def bAlike : FS := (fRet (fAndV (f2 gEq (fVar 0) (fVar 1)) (f2 gEq (fL gRepr (fAc (fVar 0) fA0)) (fL gRepr (fAc (fVar 1) fA0)))))
theorem alike_run {w u : W} {d : PyData} {S : Store} (hw : asD w S = some d) (hu : asD u S = some d) (h : Fine d) : runB 2 bAlike [w, u] S = .ok (bt true) S := by
  show toR (bAlike [some w, some u] S) = _
  unfold bAlike
  have q : gEq (.d (.str d.shown)) (.d (.str d.shown)) S = some (bt true, S) := by
    show some (bt (d.shown == d.shown), S) = _
    rw [beq_self_eq_true]
  simp only [fSeq, fAsg, fVar, fC, f1, f2, fL, fAc, fA0, fTest, fAndT, fOrT, fNotT, fTru, fAndV, fOrV, fIfE, fIf, fRet, fAug, fDrop, fSl, fPart, fNoPart, intOf, gtName, R_ok, toS_ok, lift_some, boolW_ok, truR_b, List.getElem?_cons_zero, List.getElem?_cons_succ, List.set_cons_zero, List.set_cons_succ, gEq_same hw hu h.sh, gRepr_fine hw h, gRepr_fine hu h, q, toR]
noncomputable def bBag : FS := (fRet (fL gLive (fAc (fC (.int 0)) (fAc (fC (.int 1234567891)) (fAc (fC (.int 0)) (fAc (fLc (fItS (fSl gSlA (fVar 0) fNoPart (fPart (fC (.int 63))))) (gtName 1) fYes (fL gAbs (fAc (fVar 1) fA0)) [1]) fA0))))))
theorem bag_run {ns : List Int} (h : ns.length ≤ 63) : ∃ b : Bag, runB 2 bBag [scriptW ns] [] = .ok (.loc 0) [b.so] ∧ b.Fit ∧ b.b2 = 0 := by
  refine ⟨⟨0, 1234567891, 0, (ns.take 63).map fun z => if z < 0 then -z else z⟩, ?_, ⟨(by show (0 : Int) ≤ 1234567891 ∧ (1234567891 : Int) < 2147483647; decide), ?_⟩, rfl⟩
  · show toR (bBag [some (scriptW ns), none] []) = _
    unfold bBag
    have sl : gSlA (scriptW ns) none (some 63) [] = some (.d (.list ((ns.take 63).map PyData.int)), []) := by
      show some (W.d (.list (cutG (ns.map PyData.int) none (some 63))), ([] : Store)) = _
      have e : cutG (ns.map PyData.int) none (some 63) = (ns.take 63).map PyData.int := by
        unfold cutG
        have e1 : HT.sIx (ns.map PyData.int).length (ns.map PyData.int).length (some (63 : Int)) = min 63 (ns.map PyData.int).length := HT.sIx_nat _ _ 63
        rw [HT.sIx_none, List.drop_zero, e1, Nat.sub_zero, List.map_take, List.length_map, ← List.length_map (f := PyData.int), ← List.take_eq_take_min]
      rw [e]
    have lp := bag_loop (l := 0) (ns.take 63) [] [some (scriptW ns), none] [.lst []] rfl rfl (by rw [List.length_take, List.length_nil]; show 0 + min 63 ns.length < 16777216; omega)
    have it : fItS (fSl gSlA (fVar 0) fNoPart (fPart (fC (.int 63)))) [some (scriptW ns), none] [] = .ok ⟨((ns.take 63).map PyData.int).map W.d, fun _ => True⟩ [] := by
      simp only [fItS, fSeq, fAsg, fVar, fC, f1, f2, fL, fAc, fA0, fTest, fAndT, fOrT, fNotT, fTru, fAndV, fOrV, fIfE, fIf, fRet, fAug, fDrop, fSl, fPart, fNoPart, intOf, gtName, R_ok, toS_ok, lift_some, boolW_ok, truR_b, List.getElem?_cons_zero, List.getElem?_cons_succ, List.set_cons_zero, List.set_cons_succ, sl]
      rfl
    have mm : ((ns.take 63).map PyData.int).map W.d = (ns.take 63).map fun z => W.d (.int z) := by rw [List.map_map]; rfl
    have wp : wipeR [some (scriptW ns), none] [1] = [some (scriptW ns), none] := rfl
    have lc : fLc (fItS (fSl gSlA (fVar 0) fNoPart (fPart (fC (.int 63))))) (gtName 1) fYes (fL gAbs (fAc (fVar 1) fA0)) [1] [some (scriptW ns), none] [] = .ok (.d (.list ((ns.take 63).map fun z => .int (if z < 0 then -z else z)))) [] := by
      unfold fLc fLcL
      rw [it]
      show frz 0 (lcL _ _ _ _ (wipeR [some (scriptW ns), none] [1]) 0 (((ns.take 63).map PyData.int).map W.d) [.lst []]) = _
      rw [mm, wp, lp]
      rfl
    simp only [fSeq, fAsg, fVar, fC, f1, f2, fL, fAc, fA0, fTest, fAndT, fOrT, fNotT, fTru, fAndV, fOrV, fIfE, fIf, fRet, fAug, fDrop, fSl, fPart, fNoPart, intOf, gtName, R_ok, toS_ok, lift_some, boolW_ok, truR_b, List.getElem?_cons_zero, List.getElem?_cons_succ, List.set_cons_zero, List.set_cons_succ, lc]
    show toR (RF.ret (.loc 0) [.lst [.int 0, .int 1234567891, .int 0, .list ((ns.take 63).map fun z => PyData.int (if z < 0 then -z else z))]]) = _
    show R.ok _ _ = R.ok _ [SO.lst [.int 0, .int 1234567891, .int ((0 : Nat) : Int), .list (((ns.take 63).map fun z => if z < 0 then -z else z).map PyData.int)]]
    rw [List.map_map]
    rfl
  · show ((ns.take 63).map _).length < 1000
    rw [List.length_map, List.length_take]
    omega
/-- a number is taken -/
theorem take_bg {tk : List W → Store → R W} (T : Taker tk) {S : Store} {l N : Nat} {m : Int} (hb : BG S l N) (hN : N < 2 ^ 59) (hm : 0 < m ∧ m < 1073741824) :
    ∃ v S', tk [.loc l, .d (.int m)] S = .ok (.d (.int v)) S' ∧ (0 ≤ v ∧ v < m) ∧ S'.length = S.length ∧ BG S' l (N + 1) ∧ ∀ j, j ≠ l → S'[j]? = S[j]? := by
  obtain ⟨b, h1, h2, h3⟩ := hb
  refine ⟨_, _, T S l b m h1 h2 (by omega) hm, take_facts b hm.1, List.length_set .., ⟨_, at_set h1, (take_fit h2 m).1, ?_⟩, fun j hj => List.getElem?_set_ne (Ne.symm hj)⟩
  have := (take_fit h2 m).2
  omega
/-- one of a list -/
theorem some_bg {tk : List W → Store → R W} (T : Taker tk) {S : Store} {l N : Nat} {ds : List PyData} (hb : BG S l N) (hN : N < 2 ^ 59) (hd : 0 < ds.length ∧ ds.length < 1073741824) :
    ∃ x S', x ∈ ds ∧ runB 2 (bSome tk) [.loc l, .d (.list ds)] S = .ok (.d x) S' ∧ S'.length = S.length ∧ BG S' l (N + 1) ∧ ∀ j, j ≠ l → S'[j]? = S[j]? := by
  obtain ⟨b, h1, h2, h3⟩ := hb
  refine ⟨pick b ds, _, pick_mem hd.1, some_run T h1 h2 (by omega) hd, List.length_set .., ⟨_, at_set h1, (take_fit h2 _).1, ?_⟩, fun j hj => List.getElem?_set_ne (Ne.symm hj)⟩
  have := (take_fit h2 (ds.length : Int)).2
  omega

/-! small data -/
mutual
def smallD : PyData → Bool
  | .none => true
  | .bool _ => true
  | .int i => decide (i.natAbs < 999999999999)
  | .str x => okc x.cps.toList
  | .list xs => smallDs xs
  | .tuple xs => smallDs xs
  | .dict _ => false
def smallDs : List PyData → Bool
  | [] => true
  | x :: xs => smallD x && smallDs xs
end
theorem log_sm {i : Int} (h : i.natAbs < 999999999999) : i.natAbs.log2 < 40 := by
  by_cases z : i.natAbs = 0
  · rw [z]; decide
  · exact (Nat.log2_lt z).mpr (by have : (2 : Nat) ^ 40 = 1099511627776 := by decide
                                  omega)
theorem leaf_sm {i : Int} (h : i.natAbs < 999999999999) : (PyData.shown (.int i)).length ≤ 13 := PyData.shown_int_le2 (by omega) (by omega)
theorem leaf_tx {x : Str} (h : okc x.cps.toList = true) : (x.cps.toList.all fun c => decide (c < 16 ^ 8)) = true := by
  refine List.all_eq_true.mpr fun c m => ?_
  have := List.all_eq_true.mp h c m
  rw [decide_eq_true_eq] at this
  exact decide_eq_true (by have : (16 : Nat) ^ 8 = 4294967296 := by decide
                           omega)
mutual
theorem small_lay : ∀ d : PyData, smallD d = true → PyData.canLay0 d = true
  | .none, _ => rfl
  | .bool _, _ => rfl
  | .int _, _ => rfl
  | .str x, h => by
    show PyData.strOk x = true
    have := strOk_tx (a := x.cps.toList) h
    rwa [show tx x.cps.toList = x from SX.S_tl x] at this
  | .list xs, h => small_lays xs h
  | .tuple xs, h => small_lays xs h
  | .dict _, h => by cases h
theorem small_lays : ∀ ds : List PyData, smallDs ds = true → PyData.canLayAll0 ds = true
  | [], _ => rfl
  | x :: xs, h => by
    have h2 : (smallD x && smallDs xs) = true := h
    rw [Bool.and_eq_true] at h2
    show (PyData.canLay0 x && PyData.canLayAll0 xs) = true
    rw [small_lay x h2.1, small_lays xs h2.2]
    rfl
end
mutual
theorem small_show : ∀ d : PyData, smallD d = true → PyData.showable d = true
  | .none, _ => rfl
  | .bool _, _ => rfl
  | .int i, h => decide_eq_true (Nat.lt_trans (log_sm (of_decide_eq_true h)) (by decide))
  | .str x, h => rfl
  | .list xs, h => small_shows xs h
  | .tuple xs, h => small_shows xs h
  | .dict _, h => by cases h
theorem small_shows : ∀ ds : List PyData, smallDs ds = true → PyData.showableAll ds = true
  | [], _ => rfl
  | x :: xs, h => by
    have h2 : (smallD x && smallDs xs) = true := h
    rw [Bool.and_eq_true] at h2
    show (PyData.showable x && PyData.showableAll xs) = true
    rw [small_show x h2.1, small_shows xs h2.2]
    rfl
end
mutual
theorem small_leaf : ∀ d : PyData, smallD d = true → PyData.leavesShort 13 d = true
  | .none, _ => rfl
  | .bool _, _ => rfl
  | .int i, h => decide_eq_true (leaf_sm (of_decide_eq_true h))
  | .str x, h => leaf_tx h
  | .list xs, h => small_leafs xs h
  | .tuple xs, h => small_leafs xs h
  | .dict _, h => by cases h
theorem small_leafs : ∀ ds : List PyData, smallDs ds = true → PyData.leavesShortAll 13 ds = true
  | [], _ => rfl
  | x :: xs, h => by
    have h2 : (smallD x && smallDs xs) = true := h
    rw [Bool.and_eq_true] at h2
    show (PyData.leavesShort 13 x && PyData.leavesShortAll 13 xs) = true
    rw [small_leaf x h2.1, small_leafs xs h2.2]
    rfl
end
/-- small, of a depth, of a bulk -/
structure Sm (k b : Nat) (d : PyData) : Prop where
  sm : smallD d = true
  dp : d.depth ≤ k
  bk : d.bulk ≤ b
structure Sms (k b : Nat) (ds : List PyData) : Prop where
  sm : smallDs ds = true
  dp : PyData.depthAll ds ≤ k
  bk : PyData.bulkAll ds ≤ b
theorem Sm.int {i : Int} (h : i.natAbs < 999999999999) {k b : Nat} : Sm k b (.int i) := ⟨decide_eq_true h, Nat.zero_le _, Nat.zero_le _⟩
theorem Sm.bool {i : Bool} {k b : Nat} : Sm k b (.bool i) := ⟨rfl, Nat.zero_le _, Nat.zero_le _⟩
theorem Sm.mono {k b k' b' : Nat} {d : PyData} (h : Sm k b d) (hk : k ≤ k') (hb : b ≤ b') : Sm k' b' d := ⟨h.sm, Nat.le_trans h.dp hk, Nat.le_trans h.bk hb⟩
theorem Sms.mono {k b k' b' : Nat} {d : List PyData} (h : Sms k b d) (hk : k ≤ k') (hb : b ≤ b') : Sms k' b' d := ⟨h.sm, Nat.le_trans h.dp hk, Nat.le_trans h.bk hb⟩
theorem Sms.nil {k b : Nat} : Sms k b [] := ⟨rfl, Nat.zero_le _, Nat.zero_le _⟩
theorem Sms.cons {k b1 b2 : Nat} {d : PyData} {ds : List PyData} (h : Sm k b1 d) (hs : Sms k b2 ds) : Sms k (b1 + 1 + b2) (d :: ds) := by
  refine ⟨?_, Nat.max_le.mpr ⟨h.dp, hs.dp⟩, ?_⟩
  · show (smallD d && smallDs ds) = true
    rw [h.sm, hs.sm]
    rfl
  · show d.bulk + 1 + PyData.bulkAll ds ≤ _
    have := h.bk
    have := hs.bk
    omega
theorem Sms.one {k b : Nat} {d : PyData} (h : Sm k b d) : Sms k (b + 1) [d] := (Sms.cons h (Sms.nil (b := 0))).mono (Nat.le_refl _) (by omega)
theorem Sm.tuple {k b : Nat} {ds : List PyData} (h : Sms k b ds) : Sm (k + 1) b (.tuple ds) := ⟨h.sm, Nat.succ_le_succ h.dp, h.bk⟩
theorem Sm.list {k b : Nat} {ds : List PyData} (h : Sms k b ds) : Sm (k + 1) b (.list ds) := ⟨h.sm, Nat.succ_le_succ h.dp, h.bk⟩
theorem Sms.all {k b : Nat} : ∀ {ds : List PyData}, (∀ d ∈ ds, Sm k b d) → Sms k (ds.length * (b + 1)) ds
  | [], _ => Sms.nil
  | d :: ds, h => (Sms.cons (h d (by simp)) (Sms.all fun x m => h x (by simp [m]))).mono (Nat.le_refl _) (by rw [List.length_cons, Nat.succ_mul]; omega)
theorem Sms.append {k b1 b2 : Nat} : ∀ {ds es : List PyData}, Sms k b1 ds → Sms k b2 es → Sms k (b1 + b2) (ds ++ es)
  | [], es, h, h2 => h2.mono (Nat.le_refl _) (by omega)
  | d :: ds, es, h, h2 => by
    have e : (smallD d && smallDs ds) = true := h.sm
    rw [Bool.and_eq_true] at e
    have e2 : max d.depth (PyData.depthAll ds) ≤ k := h.dp
    rw [Nat.max_le] at e2
    have e3 : d.bulk + 1 + PyData.bulkAll ds ≤ b1 := h.bk
    have r := Sms.append (b1 := PyData.bulkAll ds) (b2 := b2) ⟨e.2, e2.2, Nat.le_refl _⟩ h2
    exact (Sms.cons (b1 := d.bulk) ⟨e.1, e2.1, Nat.le_refl _⟩ r).mono (Nat.le_refl _) (by omega)
theorem Sm.fine {k b : Nat} {d : PyData} (h : Sm k b d) (hk : k ≤ 64) (hb : b ≤ 1000000) : Fine d := by
  refine ⟨?_, small_show d h.sm, ?_⟩
  · unfold SeqAt.shaped
    rw [small_lay d h.sm, Bool.true_and]
    exact decide_eq_true (Nat.le_trans h.dp hk)
  · have r := PyData.shown_le_bulk 13 (by decide) d (small_leaf d h.sm)
    have := h.bk
    show _ ≤ 16777216
    omega
end VI
set_option Elab.async false
set_option linter.all false
set_option maxRecDepth 100000
namespace VI
open PySem PySem.Spec PyProof.Rows L2

/-! comprehensions whose parts leave the store -/
abbrev iw (i : Int) : W := .d (.int i)
abbrev tu (xs : List PyData) : W := .d (.tuple xs)
abbrev sw (x : Str) : W := .d (.str x)
theorem ret_ok {r : RF} {w : W} {S : Store} (h : r = .ret w S) : toR r = .ok w S := by rw [h]; rfl
theorem frz_same {x : PyData} {S : Store} : frz S.length (.ok (.d x) S : R W) = .ok (.d x) S := by
  show R.ok _ (S.take S.length) = _
  rw [List.take_length]
def Same (S S' : Store) : Prop := S.length ≤ S'.length ∧ ∀ i, i < S.length → S'[i]? = S[i]?
theorem Same.refl (S : Store) : Same S S := ⟨Nat.le_refl _, fun _ _ => rfl⟩
theorem Same.push (S : Store) (o : SO) : Same S (S ++ [o]) := ⟨by rw [List.length_append]; omega, fun i h => List.getElem?_append_left h⟩
theorem Same.set {S S' : Store} (h : Same S S') {c : Nat} {o : SO} (hc : S.length ≤ c) : Same S (S'.set c o) := ⟨by rw [List.length_set]; exact h.1, fun i hi => by rw [List.getElem?_set_ne (by omega)]; exact h.2 i hi⟩
theorem Same.trans {S S' S2 : Store} (h : Same S S') (h2 : Same S' S2) : Same S S2 := ⟨Nat.le_trans h.1 h2.1, fun i hi => by rw [h2.2 i (by have := h.1; omega)]; exact h.2 i hi⟩
theorem Same.at {S S' : Store} (h : Same S S') {i : Nat} {o : SO} (e : S[i]? = some o) : S'[i]? = some o := by
  rw [h.2 i (List.getElem?_eq_some_iff.mp e).1]
  exact e
theorem lc_gen {S0 : Store} {ok : Store → Prop} {g : FG} {t : FT} {el : FE} {ρ : Rho} {c : Nat} {f : W → PyData} {b : W → Bool} (hc : S0.length ≤ c) (hok : ∀ S', Same S0 S' → ok S') : ∀ (ws : List W) (acc : List PyData) (S : Store), Same S0 S → S[c]? = some (.lst acc) → acc.length + ws.length < 1000000 →
    (∀ w ∈ ws, ∀ S', Same S0 S' → ∃ ρ1, g w ρ = some ρ1 ∧ t ρ1 S' = .ok (b w) S' ∧ (b w = true → el ρ1 S' = .ok (.d (f w)) S')) →
    lcL ok g t el ρ c ws S = .ok (.loc c) (S.set c (.lst (acc ++ (ws.filter b).map f)))
  | [], acc, S, hs, hS, hz, he => by
    simp only [lcL, if_pos (hok S hs), List.filter_nil, List.map_nil, List.append_nil]
    rw [set_same hS]
  | w :: ws, acc, S, hs, hS, hz, he => by
    rw [List.length_cons] at hz
    obtain ⟨ρ1, eg, et, ee⟩ := he w (by simp) S hs
    rw [lcL, if_pos (hok S hs), eg]
    simp only [et, noX_ok, R_ok]
    cases hb : b w with
    | false =>
      have ih := lc_gen hc hok (f := f) (b := b) (t := t) (el := el) (g := g) (ρ := ρ) ws acc S hs hS (by omega) fun w' m => he w' (by simp [m])
      simp only [Bool.false_eq_true, if_false]
      rw [ih, List.filter_cons_of_neg (by simp [hb])]
    | true =>
      have pt : lcPut c (.d (f w)) S = some (S.set c (.lst (acc ++ [f w]))) := by
        simp only [lcPut, hS, if_pos (show acc.length < lim by show acc.length < 16777216; omega)]
      have ih := lc_gen hc hok (f := f) (b := b) (t := t) (el := el) (g := g) (ρ := ρ) ws (acc ++ [f w]) (S.set c (.lst (acc ++ [f w]))) (hs.set hc) (at_set hS) (by rw [List.length_append, List.length_singleton]; omega) fun w' m => he w' (by simp [m])
      simp only [if_true, ee hb, frz_same, noX_ok, R_ok, pt]
      rw [ih, List.set_set, List.filter_cons_of_pos hb, List.map_cons, List.append_assoc]
      rfl
theorem flcL_gen {it : FK} {g : FG} {t : FT} {el : FE} {vs : List Nat} {ρ : Rho} {S : Store} {ws : List W} {ok : Store → Prop} {f : W → PyData} {b : W → Bool} (hit : it ρ S = .ok ⟨ws, ok⟩ S) (hz : ws.length < 1000000) (hok : ∀ S', Same S S' → ok S')
    (he : ∀ w ∈ ws, ∀ S', Same S S' → ∃ ρ1, g w (wipeR ρ vs) = some ρ1 ∧ t ρ1 S' = .ok (b w) S' ∧ (b w = true → el ρ1 S' = .ok (.d (f w)) S')) :
    fLcL it g t el vs ρ S = .ok (.loc S.length) (S ++ [.lst ((ws.filter b).map f)]) := by
  have lp := lc_gen (S0 := S) (c := S.length) (ρ := wipeR ρ vs) (Nat.le_refl _) hok ws [] (S ++ [.lst []]) (Same.push S _) (by rw [List.getElem?_append_right (Nat.le_refl _), Nat.sub_self]; rfl) (by rw [List.length_nil]; omega) he
  unfold fLcL
  rw [hit, R_ok]
  show lcL _ _ _ _ _ S.length _ _ = _
  rw [lp]
  congr 1
  rw [List.set_append_right _ _ (Nat.le_refl _), Nat.sub_self, List.nil_append]
  rfl
theorem flc_gen {it : FK} {g : FG} {t : FT} {el : FE} {vs : List Nat} {ρ : Rho} {S : Store} {ws : List W} {ok : Store → Prop} {f : W → PyData} {b : W → Bool} (hit : it ρ S = .ok ⟨ws, ok⟩ S) (hz : ws.length < 1000000) (hok : ∀ S', Same S S' → ok S')
    (he : ∀ w ∈ ws, ∀ S', Same S S' → ∃ ρ1, g w (wipeR ρ vs) = some ρ1 ∧ t ρ1 S' = .ok (b w) S' ∧ (b w = true → el ρ1 S' = .ok (.d (f w)) S')) :
    fLc it g t el vs ρ S = .ok (.d (.list ((ws.filter b).map f))) S := by
  unfold fLc
  rw [flcL_gen hit hz hok he]
  have fw : frzW S.length (S ++ [.lst ((ws.filter b).map f)]) (.loc S.length) = some (.d (.list ((ws.filter b).map f))) := by
    unfold frzW
    rw [if_neg (by omega), List.getElem?_append_right (Nat.le_refl _), Nat.sub_self]
    rfl
  show (match frzW S.length (S ++ [.lst ((ws.filter b).map f)]) (.loc S.length) with | some w' => R.ok w' ((S ++ [SO.lst ((ws.filter b).map f)]).take S.length) | none => R.bad) = _
  rw [fw]
  show R.ok _ ((S ++ [SO.lst ((ws.filter b).map f)]).take S.length) = _
  rw [List.take_left]
theorem filter_yes {ws : List W} : ws.filter (fun _ => true) = ws := List.filter_eq_self.mpr fun _ _ => rfl
/-- without a test -/
theorem flc_all {it : FK} {g : FG} {el : FE} {vs : List Nat} {ρ : Rho} {S : Store} {ws : List W} {ok : Store → Prop} {f : W → PyData} (hit : it ρ S = .ok ⟨ws, ok⟩ S) (hz : ws.length < 1000000) (hok : ∀ S', Same S S' → ok S')
    (he : ∀ w ∈ ws, ∀ S', Same S S' → ∃ ρ1, g w (wipeR ρ vs) = some ρ1 ∧ el ρ1 S' = .ok (.d (f w)) S') : fLc it g fYes el vs ρ S = .ok (.d (.list (ws.map f))) S := by
  have := flc_gen (t := fYes) (b := fun _ => true) (f := f) hit hz hok fun w m S' s => by
    obtain ⟨ρ1, e1, e2⟩ := he w m S' s
    exact ⟨ρ1, e1, rfl, fun _ => e2⟩
  rw [filter_yes] at this
  exact this
theorem flcL_all {it : FK} {g : FG} {el : FE} {vs : List Nat} {ρ : Rho} {S : Store} {ws : List W} {ok : Store → Prop} {f : W → PyData} (hit : it ρ S = .ok ⟨ws, ok⟩ S) (hz : ws.length < 1000000) (hok : ∀ S', Same S S' → ok S')
    (he : ∀ w ∈ ws, ∀ S', Same S S' → ∃ ρ1, g w (wipeR ρ vs) = some ρ1 ∧ el ρ1 S' = .ok (.d (f w)) S') : fLcL it g fYes el vs ρ S = .ok (.loc S.length) (S ++ [.lst (ws.map f)]) := by
  have := flcL_gen (t := fYes) (b := fun _ => true) (f := f) hit hz hok fun w m S' s => by
    obtain ⟨ρ1, e1, e2⟩ := he w m S' s
    exact ⟨ρ1, e1, rfl, fun _ => e2⟩
  rw [filter_yes] at this
  exact this
/-- a walk over pure data -/
theorem it_pure {a : FE} {ρ : Rho} {S : Store} {x : PyData} {xs : List PyData} (ea : a ρ S = .ok (.d x) S) (hx : x = .list xs ∨ x = .tuple xs) : ∃ ok, (∀ S', ok S') ∧ fItS a ρ S = .ok ⟨xs.map W.d, ok⟩ S := by
  unfold fItS
  rw [ea]
  rcases hx with rfl | rfl
  · exact ⟨fun _ => True, fun _ => trivial, rfl⟩
  · exact ⟨fun _ => True, fun _ => trivial, rfl⟩
end VI
set_option Elab.async false
set_option linter.all false
set_option maxRecDepth 100000
namespace VI
open PySem PySem.Spec PyProof.Rows L2
/-! the text -/
def topS (i : Nat) : Stmt := PySem.Challenge.pw_kindsworn_k04_whole_places_and_parts.main.body.getD i (.Pass ⟨0, 0, 0, 0⟩)
/-- standing -/
abbrev st0 : Stmt := topS 3
abbrev N0 : List Str := ["form", "place", "_", "second"]
abbrev P0 : List Str := ["form", "place"]
theorem sc0 : FnScope N0 P0 (defScope st0) := ⟨rfl, rfl, rfl, by decide +kernel, rfl, by decide +kernel, by decide +kernel⟩
/-- refilled -/
abbrev st1 : Stmt := topS 4
abbrev N1 : List Str := ["form", "place", "parts", "pair", "part"]
abbrev P1 : List Str := ["form", "place", "parts"]
theorem sc1 : FnScope N1 P1 (defScope st1) := ⟨rfl, rfl, rfl, by decide +kernel, rfl, by decide +kernel, by decide +kernel⟩
/-- inner -/
abbrev st2 : Stmt := topS 5
abbrev N2 : List Str := ["sort", "thing", "found", "form", "place"]
abbrev P2 : List Str := ["sort", "thing"]
theorem sc2 : FnScope N2 P2 (defScope st2) := ⟨rfl, rfl, rfl, by decide +kernel, rfl, by decide +kernel, by decide +kernel⟩
/-- with_inner -/
abbrev st3 : Stmt := topS 6
abbrev N3 : List Str := ["sort", "thing", "parts", "made", "at", "form", "place", "many"]
abbrev P3 : List Str := ["sort", "thing", "parts"]
theorem sc3 : FnScope N3 P3 (defScope st3) := ⟨rfl, rfl, rfl, by decide +kernel, rfl, by decide +kernel, by decide +kernel⟩
/-- every -/
abbrev st4 : Stmt := topS 7
abbrev N4 : List Str := ["sort", "thing", "found", "todo", "one"]
abbrev P4 : List Str := ["sort", "thing"]
theorem sc4 : FnScope N4 P4 (defScope st4) := ⟨rfl, rfl, rfl, by decide +kernel, rfl, by decide +kernel, by decide +kernel⟩
/-- parts_of -/
abbrev st5 : Stmt := topS 9
abbrev N5 : List Str := ["term"]
abbrev P5 : List Str := ["term"]
theorem sc5 : FnScope N5 P5 (defScope st5) := ⟨rfl, rfl, rfl, by decide +kernel, rfl, by decide +kernel, by decide +kernel⟩
/-- with_parts -/
abbrev st6 : Stmt := topS 10
abbrev N6 : List Str := ["term", "parts"]
abbrev P6 : List Str := ["term", "parts"]
theorem sc6 : FnScope N6 P6 (defScope st6) := ⟨rfl, rfl, rfl, by decide +kernel, rfl, by decide +kernel, by decide +kernel⟩
/-- places_of -/
abbrev st7 : Stmt := topS 11
abbrev N7 : List Str := ["term", "found", "todo", "place", "one", "rows", "index", "part"]
abbrev P7 : List Str := ["term"]
theorem sc7 : FnScope N7 P7 (defScope st7) := ⟨rfl, rfl, rfl, by decide +kernel, rfl, by decide +kernel, by decide +kernel⟩
/-- size_of -/
abbrev st8 : Stmt := topS 12
abbrev N8 : List Str := ["term"]
abbrev P8 : List Str := ["term"]
theorem sc8 : FnScope N8 P8 (defScope st8) := ⟨rfl, rfl, rfl, by decide +kernel, rfl, by decide +kernel, by decide +kernel⟩
/-- part_at -/
abbrev st9 : Stmt := topS 13
abbrev N9 : List Str := ["term", "place", "part", "index"]
abbrev P9 : List Str := ["term", "place"]
theorem sc9 : FnScope N9 P9 (defScope st9) := ⟨rfl, rfl, rfl, by decide +kernel, rfl, by decide +kernel, by decide +kernel⟩
/-- with_part -/
abbrev st10 : Stmt := topS 14
abbrev N10 : List Str := ["term", "place", "part", "around", "depth", "made", "parts"]
abbrev P10 : List Str := ["term", "place", "part"]
theorem sc10 : FnScope N10 P10 (defScope st10) := ⟨rfl, rfl, rfl, by decide +kernel, rfl, by decide +kernel, by decide +kernel⟩
/-- _law_bag -/
abbrev st11 : Stmt := topS 16
abbrev N11 : List Str := ["script", "cell"]
abbrev P11 : List Str := ["script"]
theorem sc11 : FnScope N11 P11 (defScope st11) := ⟨rfl, rfl, rfl, by decide +kernel, rfl, by decide +kernel, by decide +kernel⟩
/-- _law_take -/
abbrev st12 : Stmt := topS 17
abbrev N12 : List Str := ["bag", "many", "cell", "stirred", "value", "begin", "second"]
abbrev P12 : List Str := ["bag", "many"]
theorem sc12 : FnScope N12 P12 (defScope st12) := ⟨rfl, rfl, rfl, by decide +kernel, rfl, by decide +kernel, by decide +kernel⟩
/-- _law_some -/
abbrev st13 : Stmt := topS 18
abbrev N13 : List Str := ["bag", "things"]
abbrev P13 : List Str := ["bag", "things"]
theorem sc13 : FnScope N13 P13 (defScope st13) := ⟨rfl, rfl, rfl, by decide +kernel, rfl, by decide +kernel, by decide +kernel⟩
/-- _law_mixed -/
abbrev st14 : Stmt := topS 19
abbrev N14 : List Str := ["bag", "things", "found", "thing"]
abbrev P14 : List Str := ["bag", "things"]
theorem sc14 : FnScope N14 P14 (defScope st14) := ⟨rfl, rfl, rfl, by decide +kernel, rfl, by decide +kernel, by decide +kernel⟩
/-- _law_alike -/
abbrev st15 : Stmt := topS 20
abbrev N15 : List Str := ["found", "due"]
abbrev P15 : List Str := ["found", "due"]
theorem sc15 : FnScope N15 P15 (defScope st15) := ⟨rfl, rfl, rfl, by decide +kernel, rfl, by decide +kernel, by decide +kernel⟩
/-- _law_parts -/
abbrev st16 : Stmt := topS 21
abbrev N16 : List Str := ["term", "word", "one", "row"]
abbrev P16 : List Str := ["term"]
theorem sc16 : FnScope N16 P16 (defScope st16) := ⟨rfl, rfl, rfl, by decide +kernel, rfl, by decide +kernel, by decide +kernel⟩
/-- _law_size -/
abbrev st17 : Stmt := topS 22
abbrev N17 : List Str := ["term", "part"]
abbrev P17 : List Str := ["term"]
theorem sc17 : FnScope N17 P17 (defScope st17) := ⟨rfl, rfl, rfl, by decide +kernel, rfl, by decide +kernel, by decide +kernel⟩
/-- _law_with_parts -/
abbrev st18 : Stmt := topS 23
abbrev N18 : List Str := ["term", "parts", "word", "one", "part", "row"]
abbrev P18 : List Str := ["term", "parts"]
theorem sc18 : FnScope N18 P18 (defScope st18) := ⟨rfl, rfl, rfl, by decide +kernel, rfl, by decide +kernel, by decide +kernel⟩
/-- _law_places -/
abbrev st19 : Stmt := topS 24
abbrev N19 : List Str := ["term", "found", "k", "part", "place"]
abbrev P19 : List Str := ["term"]
theorem sc19 : FnScope N19 P19 (defScope st19) := ⟨rfl, rfl, rfl, by decide +kernel, rfl, by decide +kernel, by decide +kernel⟩
/-- _law_at -/
abbrev st20 : Stmt := topS 25
abbrev N20 : List Str := ["term", "place", "k"]
abbrev P20 : List Str := ["term", "place"]
theorem sc20 : FnScope N20 P20 (defScope st20) := ⟨rfl, rfl, rfl, by decide +kernel, rfl, by decide +kernel, by decide +kernel⟩
/-- _law_put_at -/
abbrev st21 : Stmt := topS 26
abbrev N21 : List Str := ["term", "place", "part", "parts"]
abbrev P21 : List Str := ["term", "place", "part"]
theorem sc21 : FnScope N21 P21 (defScope st21) := ⟨rfl, rfl, rfl, by decide +kernel, rfl, by decide +kernel, by decide +kernel⟩
/-- _law_any_name -/
abbrev st22 : Stmt := topS 27
abbrev N22 : List Str := ["bag"]
abbrev P22 : List Str := ["bag"]
theorem sc22 : FnScope N22 P22 (defScope st22) := ⟨rfl, rfl, rfl, by decide +kernel, rfl, by decide +kernel, by decide +kernel⟩
/-- _law_any_small -/
abbrev st23 : Stmt := topS 28
abbrev N23 : List Str := ["bag"]
abbrev P23 : List Str := ["bag"]
theorem sc23 : FnScope N23 P23 (defScope st23) := ⟨rfl, rfl, rfl, by decide +kernel, rfl, by decide +kernel, by decide +kernel⟩
/-- _law_any_maker -/
abbrev st24 : Stmt := topS 29
abbrev N24 : List Str := ["bag"]
abbrev P24 : List Str := ["bag"]
theorem sc24 : FnScope N24 P24 (defScope st24) := ⟨rfl, rfl, rfl, by decide +kernel, rfl, by decide +kernel, by decide +kernel⟩
/-- _law_any_labels -/
abbrev st25 : Stmt := topS 30
abbrev N25 : List Str := ["bag", "least"]
abbrev P25 : List Str := ["bag", "least"]
theorem sc25 : FnScope N25 P25 (defScope st25) := ⟨rfl, rfl, rfl, by decide +kernel, rfl, by decide +kernel, by decide +kernel⟩
/-- _law_any_number -/
abbrev st26 : Stmt := topS 31
abbrev N26 : List Str := ["bag"]
abbrev P26 : List Str := ["bag"]
theorem sc26 : FnScope N26 P26 (defScope st26) := ⟨rfl, rfl, rfl, by decide +kernel, rfl, by decide +kernel, by decide +kernel⟩
/-- _law_any_pattern -/
abbrev st27 : Stmt := topS 32
abbrev N27 : List Str := ["bag", "deep", "names", "way", "part", "turn", "label"]
abbrev P27 : List Str := ["bag", "deep", "names"]
theorem sc27 : FnScope N27 P27 (defScope st27) := ⟨rfl, rfl, rfl, by decide +kernel, rfl, by decide +kernel, by decide +kernel⟩
/-- _law_any_fn -/
abbrev st28 : Stmt := topS 33
abbrev N28 : List Str := ["bag", "deep"]
abbrev P28 : List Str := ["bag", "deep"]
theorem sc28 : FnScope N28 P28 (defScope st28) := ⟨rfl, rfl, rfl, by decide +kernel, rfl, by decide +kernel, by decide +kernel⟩
/-- _law_any_rows -/
abbrev st29 : Stmt := topS 34
abbrev N29 : List Str := ["bag", "deep", "rows", "turn", "names"]
abbrev P29 : List Str := ["bag", "deep"]
theorem sc29 : FnScope N29 P29 (defScope st29) := ⟨rfl, rfl, rfl, by decide +kernel, rfl, by decide +kernel, by decide +kernel⟩
/-- _law_any_term -/
abbrev st30 : Stmt := topS 35
abbrev N30 : List Str := ["bag", "deep", "way", "some", "names", "name", "turn", "labels", "label", "sign"]
abbrev P30 : List Str := ["bag", "deep"]
theorem sc30 : FnScope N30 P30 (defScope st30) := ⟨rfl, rfl, rfl, by decide +kernel, rfl, by decide +kernel, by decide +kernel⟩
/-- _law_some_term -/
abbrev st31 : Stmt := topS 36
abbrev N31 : List Str := ["bag", "deep", "turn", "term"]
abbrev P31 : List Str := ["bag", "deep"]
theorem sc31 : FnScope N31 P31 (defScope st31) := ⟨rfl, rfl, rfl, by decide +kernel, rfl, by decide +kernel, by decide +kernel⟩
/-- _law_is_put_right -/
abbrev st32 : Stmt := topS 37
abbrev N32 : List Str := ["bag", "term", "place", "part", "told", "due", "other", "below", "one", "kept"]
abbrev P32 : List Str := ["bag", "term", "place", "part"]
theorem sc32 : FnScope N32 P32 (defScope st32) := ⟨rfl, rfl, rfl, by decide +kernel, rfl, by decide +kernel, by decide +kernel⟩
/-- _law_is_plain -/
abbrev st33 : Stmt := topS 38
abbrev N33 : List Str := ["term", "place"]
abbrev P33 : List Str := ["term", "place"]
theorem sc33 : FnScope N33 P33 (defScope st33) := ⟨rfl, rfl, rfl, by decide +kernel, rfl, by decide +kernel, by decide +kernel⟩
/-- law -/
abbrev st34 : Stmt := topS 39
abbrev N34 : List Str := ["script", "bag", "turn", "term", "other", "kept", "places", "place", "part", "parts", "turned", "put"]
abbrev P34 : List Str := ["script"]
theorem sc34 : FnScope N34 P34 (defScope st34) := ⟨rfl, rfl, rfl, by decide +kernel, rfl, by decide +kernel, by decide +kernel⟩
def k_SHAPES : List (List Str × PyData) := [kRow ["kind", "num"] (.tuple []), kRow ["kind", "truth"] (.tuple []), kRow ["kind", "to"] (.tuple [(.str "one"), (.str "one")]), kRow ["kind", "tuple"] (.tuple [(.str "several")]), kRow ["kind", "record"] (.tuple [(.str "perhaps fields"), (.str "rest")]), kRow ["kind", "cell"] (.tuple [(.str "one")]), kRow ["kind", "of"] (.tuple [(.str "maker"), (.str "any")]), kRow ["kind", "var"] (.tuple [(.str "index")]), kRow ["pattern", "any"] (.tuple []), kRow ["pattern", "bind"] (.tuple [(.str "small")]), kRow ["pattern", "num"] (.tuple [(.str "number")]), kRow ["pattern", "truth"] (.tuple [(.str "truth")]), kRow ["pattern", "tuple"] (.tuple [(.str "several")]), kRow ["pattern", "record"] (.tuple [(.str "fields")]), kRow ["pattern", "make"] (.tuple [(.str "maker"), (.str "perhaps one")]), kRow ["term", "num"] (.tuple [(.str "number")]), kRow ["term", "truth"] (.tuple [(.str "truth")]), kRow ["term", "name"] (.tuple [(.str "name")]), kRow ["term", "fn"] (.tuple [(.str "small"), (.str "one")]), kRow ["term", "call"] (.tuple [(.str "one"), (.str "one")]), kRow ["term", "let"] (.tuple [(.str "name"), (.str "one"), (.str "one")]), kRow ["term", "rec"] (.tuple [(.str "group"), (.str "one")]), kRow ["term", "if"] (.tuple [(.str "one"), (.str "one"), (.str "one")]), kRow ["term", "tuple"] (.tuple [(.str "several")]), kRow ["term", "record"] (.tuple [(.str "fields")]), kRow ["term", "field"] (.tuple [(.str "one"), (.str "label")]), kRow ["term", "make"] (.tuple [(.str "maker"), (.str "perhaps one")]), kRow ["term", "match"] (.tuple [(.str "one"), (.str "rows")]), kRow ["term", "new"] (.tuple [(.str "one")]), kRow ["term", "get"] (.tuple [(.str "one")]), kRow ["term", "put"] (.tuple [(.str "one"), (.str "one")]), kRow ["term", "op"] (.tuple [(.str "sign"), (.str "one"), (.str "one")]), kRow ["term", "tell"] (.tuple [(.str "one")])]
def k_PAIRED : PyData := (.tuple [(.str "fields"), (.str "perhaps fields"), (.str "group"), (.str "rows")])
/-! what they do -/
abbrev Calls := Nat → List W → Store → R W
/-- standing -/
noncomputable def b0 (call : Calls) : FS := (fSeq (fIf (fTest (f2 gEq (fVar 0) (fC (.str "one")))) (fRet (fL gLst (fAc (fVar 1) fA0))) fNext) (fSeq (fIf (fTest (f2 gEq (fVar 0) (fC (.str "perhaps one")))) (fRet (fIfE (fTest (f2 gIsN (fVar 1) (fC .none))) (fL gLst fA0) (fL gLst (fAc (fVar 1) fA0)))) fNext) (fSeq (fIf (fTest (f2 gInA (fVar 0) (fL gTup (fAc (fC (.str "several")) (fAc (fC (.str "any")) fA0))))) (fRet (fL gList (fAc (fVar 1) fA0))) fNext) (fSeq (fIf (fTest (f2 gInA (fVar 0) (fC k_PAIRED))) (fRet (fLc (fItS (fVar 1)) (gtTup 2 (gtCons (gtName 2) (gtCons (gtName 3) gtNil))) fYes (fVar 3) [2, 3])) fNext) (fRet (fL gLst fA0))))))
/-- refilled -/
noncomputable def b1 (call : Calls) : FS := (fSeq (fIf (fTest (f2 gInA (fVar 0) (fL gTup (fAc (fC (.str "one")) (fAc (fC (.str "perhaps one")) fA0))))) (fRet (fIfE (fTru (fVar 2)) (f2 gIx (fVar 2) (fC (.int 0))) (fC .none))) fNext) (fSeq (fIf (fTest (f2 gInA (fVar 0) (fL gTup (fAc (fC (.str "several")) (fAc (fC (.str "any")) fA0))))) (fRet (fL gTupleA (fAc (fVar 2) fA0))) fNext) (fSeq (fIf (fTest (f2 gInA (fVar 0) (fC k_PAIRED))) (fRet (fL gTupleA (fAc (fLc (fRng zipK (fAc (fVar 1) (fAc (fVar 2) fA0))) (gtTup 2 (gtCons (gtName 3) (gtCons (gtName 4) gtNil))) fYes (fL gTup (fAc (f2 gIx (fVar 3) (fC (.int 0))) (fAc (fVar 4) fA0))) [3, 4]) fA0))) fNext) (fRet (fVar 1)))))
/-- inner -/
noncomputable def b2 (call : Calls) : FS := (fSeq (fAsg (fL gLive fA0) (gtName 2)) (fSeq (fFor (fRng zipK (fAc (f1 (gKD k_SHAPES) (fL gTup (fAc (fVar 0) (fAc (f2 gIx (fVar 1) (fC (.int 0))) fA0)))) (fAc (fSl gSlA (fVar 1) (fPart (fC (.int 1))) fNoPart) fA0))) (gtTup 2 (gtCons (gtName 3) (gtCons (gtName 4) gtNil))) (fDrop (fMeth mExtend (fVar 2) (fAc (fCall 2 (call 0) (fAc (fVar 3) (fAc (fVar 4) fA0))) fA0)))) (fRet (fVar 2))))
/-- with_inner -/
noncomputable def b3 (call : Calls) : FS := (fSeq (fAsg (fL gLive (fAc (f2 gIx (fVar 1) (fC (.int 0))) fA0)) (gtName 3)) (fSeq (fAsg (fC (.int 0)) (gtName 4)) (fSeq (fFor (fRng zipK (fAc (f1 (gKD k_SHAPES) (fL gTup (fAc (fVar 0) (fAc (f2 gIx (fVar 1) (fC (.int 0))) fA0)))) (fAc (fSl gSlA (fVar 1) (fPart (fC (.int 1))) fNoPart) fA0))) (gtTup 2 (gtCons (gtName 5) (gtCons (gtName 6) gtNil))) (fSeq (fAsg (fL gLen (fAc (fCall 2 (call 0) (fAc (fVar 5) (fAc (fVar 6) fA0))) fA0)) (gtName 7)) (fSeq (fDrop (fMeth mAppend (fVar 3) (fAc (fCall 3 (call 1) (fAc (fVar 5) (fAc (fVar 6) (fAc (fSl gSlA (fVar 2) (fPart (fVar 4)) (fPart (f2 gAdd (fVar 4) (fVar 7)))) fA0)))) fA0))) (fAug 4 (gI2 (fun _ _ => true) fun i j => .int (i + j)) (fVar 7))))) (fRet (fL gTupleA (fAc (fVar 3) fA0))))))
/-- every -/
noncomputable def b4 (call : Calls) : FS := (fSeq (fAsg (fL gLive fA0) (gtName 2)) (fSeq (fAsg (fL gLive (fAc (fVar 1) fA0)) (gtName 3)) (fSeq (whileL (fTru (fVar 3)) (fSeq (fAsg (fMeth0 mPop (fVar 3)) (gtName 4)) (fSeq (fDrop (fMeth mAppend (fVar 2) (fAc (fVar 4) fA0))) (fDrop (fMeth mExtend (fVar 3) (fAc (f1 gRevB (fCall 2 (call 2) (fAc (fVar 0) (fAc (fVar 4) fA0)))) fA0))))) 1000000) (fRet (fVar 2)))))
/-- parts_of -/
noncomputable def b5 (call : Calls) : FS := (fRet (fL gTupleA (fAc (fCall 2 (call 2) (fAc (fC (.str "term")) (fAc (fVar 0) fA0))) fA0)))
/-- with_parts -/
noncomputable def b6 (call : Calls) : FS := (fRet (fCall 3 (call 3) (fAc (fC (.str "term")) (fAc (fVar 0) (fAc (fL gList (fAc (fVar 1) fA0)) fA0)))))
/-- places_of -/
noncomputable def b7 (call : Calls) : FS := (fSeq (fAsg (fL gLive fA0) (gtName 1)) (fSeq (fAsg (fL gLive (fAc (fL gTup (fAc (fL gTup fA0) (fAc (fVar 0) fA0))) fA0)) (gtName 2)) (fSeq (whileL (fTru (fVar 2)) (fSeq (fAsg (fMeth0 mPop (fVar 2)) (gtTup 2 (gtCons (gtName 3) (gtCons (gtName 4) gtNil)))) (fSeq (fDrop (fMeth mAppend (fVar 1) (fAc (fVar 3) fA0))) (fSeq (fAsg (fLc (fRng enumK (fAc (fCall 1 (call 5) (fAc (fVar 4) fA0)) fA0)) (gtTup 2 (gtCons (gtName 6) (gtCons (gtName 7) gtNil))) fYes (fL gTup (fAc (f2 gAdd (fVar 3) (fL gTup (fAc (fVar 6) fA0))) (fAc (fVar 7) fA0))) [6, 7]) (gtName 5)) (fDrop (fMeth mExtend (fVar 2) (fAc (f1 gRevB (fVar 5)) fA0)))))) 1000000) (fRet (fL gTupleA (fAc (fVar 1) fA0))))))
/-- size_of -/
noncomputable def b8 (call : Calls) : FS := (fRet (fL gLen (fAc (fCall 2 (call 4) (fAc (fC (.str "term")) (fAc (fVar 0) fA0))) fA0)))
/-- part_at -/
noncomputable def b9 (call : Calls) : FS := (fSeq (fAsg (fVar 0) (gtName 2)) (fSeq (fFor (fItS (fVar 1)) (gtName 3) (fAsg (f2 gIx (fCall 1 (call 5) (fAc (fVar 2) fA0)) (fVar 3)) (gtName 2))) (fRet (fVar 2))))
/-- with_part -/
noncomputable def b10 (call : Calls) : FS := (fSeq (fAsg (fLc (fRng rng1 (fAc (fL gLen (fAc (fVar 1) fA0)) fA0)) (gtName 4) fYes (fCall 2 (call 9) (fAc (fVar 0) (fAc (fSl gSlA (fVar 1) fNoPart (fPart (fVar 4))) fA0))) [4]) (gtName 3)) (fSeq (fAsg (fVar 2) (gtName 5)) (fSeq (fFor (fRng rng3 (fAc (f2 gSub (fL gLen (fAc (fVar 1) fA0)) (fC (.int 1))) (fAc (f1 gNeg (fC (.int 1))) (fAc (f1 gNeg (fC (.int 1))) fA0)))) (gtName 4) (fSeq (fAsg (fL gListL (fAc (fCall 1 (call 5) (fAc (f2 gIx (fVar 3) (fVar 4)) fA0)) fA0)) (gtName 6)) (fSeq (fStore (fVar 5) (fVar 6) (f2 gIx (fVar 1) (fVar 4))) (fAsg (fCall 2 (call 6) (fAc (f2 gIx (fVar 3) (fVar 4)) (fAc (fVar 6) fA0))) (gtName 5))))) (fRet (fVar 5)))))
/-- _law_bag -/
noncomputable def b11 (call : Calls) : FS := (fRet (fL gLive (fAc (fC (.int 0)) (fAc (fC (.int 1234567891)) (fAc (fC (.int 0)) (fAc (fLc (fItS (fSl gSlA (fVar 0) fNoPart (fPart (fC (.int 63))))) (gtName 1) fYes (fL gAbs (fAc (fVar 1) fA0)) [1]) fA0))))))
/-- _law_take -/
noncomputable def b12 (call : Calls) : FS := (fSeq (fIf (fTest (f2 gEq (f2 gIx (fVar 0) (fC (.int 0))) (fC (.int 0)))) (fSeq (fAsg (f2 gIx (f2 gAdd (fSl gSlA (f2 gIx (fVar 0) (fC (.int 3))) (fPart (f2 gIx (fVar 0) (fC (.int 2)))) fNoPart) (fL gLst (fAc (fC (.int 0)) fA0))) (fC (.int 0))) (gtName 2)) (fSeq (fAugAt (fVar 0) (fC (.int 2)) (gI2 (fun _ _ => true) fun i j => .int (i + j)) (fC (.int 1))) (fSeq (fIf (fTest (f2 gGe (fVar 2) (f2 gPow (fC (.int 10)) (fC (.int 18))))) (fStore (fVar 2) (fVar 0) (fC (.int 0))) fNext) (fSeq (fAsg (f2 gAdd (f2 gAdd (f2 gMulA (f2 gIx (fVar 0) (fC (.int 1))) (fC (.int 48271))) (f2 gMod (fL gIntA (fAc (fVar 2) fA0)) (fC (.int 2147483647)))) (f2 gMulA (fC (.int 7919)) (f2 gIx (fVar 0) (fC (.int 2))))) (gtName 3)) (fStore (f2 gMod (fL gIntA (fAc (fVar 3) fA0)) (fC (.int 2147483647))) (fVar 0) (fC (.int 1))))))) fNext) (fSeq (fIf (fTest (f2 gGt (f2 gIx (fVar 0) (fC (.int 0))) (fC (.int 0)))) (fSeq (fAsg (f2 gMod (fL gIntA (fAc (f2 gIx (fVar 0) (fC (.int 0))) fA0)) (fVar 1)) (gtName 4)) (fSeq (fStore (f2 gDiv (fL gIntA (fAc (f2 gIx (fVar 0) (fC (.int 0))) fA0)) (fVar 1)) (fVar 0) (fC (.int 0))) (fRet (fVar 4)))) fNext) (fSeq (fAsg (f2 gMod (fL gIntA (fAc (f2 gMulA (f2 gAdd (f2 gIx (fVar 0) (fC (.int 1))) (fC (.int 1))) (fC (.int 39373))) fA0)) (fC (.int 1000000007))) (gtName 5)) (fSeq (fAsg (f2 gMod (fL gIntA (fAc (f2 gMulA (f2 gMod (fL gIntA (fAc (f2 gMulA (fVar 5) (fVar 5)) fA0)) (fC (.int 998244353))) (fC (.int 30011))) fA0)) (fC (.int 998244353))) (gtName 6)) (fRet (f2 gMod (fL gIntA (fAc (f2 gDiv (fVar 6) (fC (.int 7))) fA0)) (fVar 1)))))))
/-- _law_some -/
noncomputable def b13 (call : Calls) : FS := (fRet (f2 gIx (fVar 1) (fCall 2 (call 12) (fAc (fVar 0) (fAc (fL gLen (fAc (fVar 1) fA0)) fA0)))))
/-- _law_mixed -/
noncomputable def b14 (call : Calls) : FS := (fSeq (fAsg (fL gLive fA0) (gtName 2)) (fSeq (fFor (fItS (fVar 1)) (gtName 3) (fDrop (fMeth mInsert (fVar 2) (fAc (fCall 2 (call 12) (fAc (fVar 0) (fAc (f2 gAdd (fL gLen (fAc (fVar 2) fA0)) (fC (.int 1))) fA0))) (fAc (fVar 3) fA0))))) (fRet (fVar 2))))
/-- _law_alike -/
noncomputable def b15 (call : Calls) : FS := (fRet (fAndV (f2 gEq (fVar 0) (fVar 1)) (f2 gEq (fL gRepr (fAc (fVar 0) fA0)) (fL gRepr (fAc (fVar 1) fA0)))))
/-- _law_parts -/
noncomputable def b16 (call : Calls) : FS := (fSeq (fAsg (f2 gIx (fVar 0) (fC (.int 0))) (gtName 1)) (fSeq (fIf (fTest (f2 gInA (fVar 1) (fL gTup (fAc (fC (.str "num")) (fAc (fC (.str "truth")) (fAc (fC (.str "name")) fA0)))))) (fRet (fL gLive fA0)) fNext) (fSeq (fIf (fTest (f2 gEq (fVar 1) (fC (.str "fn")))) (fRet (fL gLive (fAc (f2 gIx (fVar 0) (fC (.int 2))) fA0))) fNext) (fSeq (fIf (fTest (f2 gEq (fVar 1) (fC (.str "let")))) (fRet (fL gLive (fAc (f2 gIx (fVar 0) (fC (.int 2))) (fAc (f2 gIx (fVar 0) (fC (.int 3))) fA0)))) fNext) (fSeq (fIf (fTest (f2 gEq (fVar 1) (fC (.str "rec")))) (fRet (f2 gAddL (fLc (fItS (f2 gIx (fVar 0) (fC (.int 1)))) (gtName 2) fYes (f2 gIx (fVar 2) (fC (.int 1))) [2]) (fL gLst (fAc (f2 gIx (fVar 0) (fC (.int 2))) fA0)))) fNext) (fSeq (fIf (fTest (f2 gEq (fVar 1) (fC (.str "tuple")))) (fRet (fL gListL (fAc (f2 gIx (fVar 0) (fC (.int 1))) fA0))) fNext) (fSeq (fIf (fTest (f2 gEq (fVar 1) (fC (.str "record")))) (fRet (fLcL (fItS (f2 gIx (fVar 0) (fC (.int 1)))) (gtName 2) fYes (f2 gIx (fVar 2) (fC (.int 1))) [2])) fNext) (fSeq (fIf (fTest (f2 gEq (fVar 1) (fC (.str "field")))) (fRet (fL gLive (fAc (f2 gIx (fVar 0) (fC (.int 1))) fA0))) fNext) (fSeq (fIf (fTest (f2 gEq (fVar 1) (fC (.str "make")))) (fRet (fIfE (fTest (f2 gNotN (f2 gIx (fVar 0) (fC (.int 2))) (fC .none))) (fL gLive (fAc (f2 gIx (fVar 0) (fC (.int 2))) fA0)) (fL gLive fA0))) fNext) (fSeq (fIf (fTest (f2 gEq (fVar 1) (fC (.str "match")))) (fRet (f2 gAddL (fL gLst (fAc (f2 gIx (fVar 0) (fC (.int 1))) fA0)) (fLc (fItS (f2 gIx (fVar 0) (fC (.int 2)))) (gtName 3) fYes (f2 gIx (fVar 3) (fC (.int 1))) [3]))) fNext) (fRet (fIfE (fTest (f2 gEq (fVar 1) (fC (.str "op")))) (fL gListL (fAc (fSl gSlA (fVar 0) (fPart (fC (.int 2))) fNoPart) fA0)) (fL gListL (fAc (fSl gSlA (fVar 0) (fPart (fC (.int 1))) fNoPart) fA0))))))))))))))
/-- _law_size -/
noncomputable def b17 (call : Calls) : FS := (fRet (f2 gAdd (fC (.int 1)) (fL gSum (fAc (fLc (fItS (fCall 1 (call 16) (fAc (fVar 0) fA0))) (gtName 1) fYes (fCall 1 (call 17) (fAc (fVar 1) fA0)) [1]) fA0))))
/-- _law_with_parts -/
noncomputable def b18 (call : Calls) : FS := (fSeq (fAsg (f2 gIx (fVar 0) (fC (.int 0))) (gtName 2)) (fSeq (fIf (fTest (f2 gInA (fVar 2) (fL gTup (fAc (fC (.str "num")) (fAc (fC (.str "truth")) (fAc (fC (.str "name")) fA0)))))) (fRet (fVar 0)) fNext) (fSeq (fIf (fTest (f2 gEq (fVar 2) (fC (.str "fn")))) (fRet (fL gTup (fAc (fC (.str "fn")) (fAc (f2 gIx (fVar 0) (fC (.int 1))) (fAc (f2 gIx (fVar 1) (fC (.int 0))) fA0))))) fNext) (fSeq (fIf (fTest (f2 gEq (fVar 2) (fC (.str "let")))) (fRet (fL gTup (fAc (fC (.str "let")) (fAc (f2 gIx (fVar 0) (fC (.int 1))) (fAc (f2 gIx (fVar 1) (fC (.int 0))) (fAc (f2 gIx (fVar 1) (fC (.int 1))) fA0)))))) fNext) (fSeq (fIf (fTest (f2 gEq (fVar 2) (fC (.str "rec")))) (fRet (fL gTup (fAc (fC (.str "rec")) (fAc (fL gTupleA (fAc (fLc (fRng zipK (fAc (f2 gIx (fVar 0) (fC (.int 1))) (fAc (fVar 1) fA0))) (gtTup 2 (gtCons (gtName 3) (gtCons (gtName 4) gtNil))) fYes (fL gTup (fAc (f2 gIx (fVar 3) (fC (.int 0))) (fAc (fVar 4) fA0))) [3, 4]) fA0)) (fAc (f2 gIx (fVar 1) (f1 gNeg (fC (.int 1)))) fA0))))) fNext) (fSeq (fIf (fTest (f2 gEq (fVar 2) (fC (.str "tuple")))) (fRet (fL gTup (fAc (fC (.str "tuple")) (fAc (fL gTupleA (fAc (fVar 1) fA0)) fA0)))) fNext) (fSeq (fIf (fTest (f2 gEq (fVar 2) (fC (.str "record")))) (fRet (fL gTup (fAc (fC (.str "record")) (fAc (fL gTupleA (fAc (fLc (fRng zipK (fAc (f2 gIx (fVar 0) (fC (.int 1))) (fAc (fVar 1) fA0))) (gtTup 2 (gtCons (gtName 3) (gtCons (gtName 4) gtNil))) fYes (fL gTup (fAc (f2 gIx (fVar 3) (fC (.int 0))) (fAc (fVar 4) fA0))) [3, 4]) fA0)) fA0)))) fNext) (fSeq (fIf (fTest (f2 gEq (fVar 2) (fC (.str "field")))) (fRet (fL gTup (fAc (fC (.str "field")) (fAc (f2 gIx (fVar 1) (fC (.int 0))) (fAc (f2 gIx (fVar 0) (fC (.int 2))) fA0))))) fNext) (fSeq (fIf (fTest (f2 gEq (fVar 2) (fC (.str "make")))) (fRet (fL gTup (fAc (fC (.str "make")) (fAc (f2 gIx (fVar 0) (fC (.int 1))) (fAc (fIfE (fTest (f2 gNotN (f2 gIx (fVar 0) (fC (.int 2))) (fC .none))) (f2 gIx (fVar 1) (fC (.int 0))) (fC .none)) fA0))))) fNext) (fSeq (fIf (fTest (f2 gEq (fVar 2) (fC (.str "match")))) (fRet (fL gTup (fAc (fC (.str "match")) (fAc (f2 gIx (fVar 1) (fC (.int 0))) (fAc (fL gTupleA (fAc (fLc (fRng zipK (fAc (f2 gIx (fVar 0) (fC (.int 2))) (fAc (fSl gSlA (fVar 1) (fPart (fC (.int 1))) fNoPart) fA0))) (gtTup 2 (gtCons (gtName 5) (gtCons (gtName 4) gtNil))) fYes (fL gTup (fAc (f2 gIx (fVar 5) (fC (.int 0))) (fAc (fVar 4) fA0))) [5, 4]) fA0)) fA0))))) fNext) (fRet (fIfE (fTest (f2 gEq (fVar 2) (fC (.str "op")))) (fL gTup (fAc (fC (.str "op")) (fAc (f2 gIx (fVar 0) (fC (.int 1))) (fAc (f2 gIx (fVar 1) (fC (.int 0))) (fAc (f2 gIx (fVar 1) (fC (.int 1))) fA0))))) (f2 gAdd (fL gTup (fAc (fVar 2) fA0)) (fL gTupleA (fAc (fVar 1) fA0)))))))))))))))
/-- _law_places -/
noncomputable def b19 (call : Calls) : FS := (fSeq (fAsg (fL gLive (fAc (fL gTup fA0) fA0)) (gtName 1)) (fSeq (fFor (fRng enumK (fAc (fCall 1 (call 16) (fAc (fVar 0) fA0)) fA0)) (gtTup 2 (gtCons (gtName 2) (gtCons (gtName 3) gtNil))) (fDrop (fMeth mExtend (fVar 1) (fAc (fLc (fItS (fCall 1 (call 19) (fAc (fVar 3) fA0))) (gtName 4) fYes (f2 gAdd (fL gTup (fAc (fVar 2) fA0)) (fVar 4)) [4]) fA0)))) (fRet (fVar 1))))
/-- _law_at -/
noncomputable def b20 (call : Calls) : FS := (fSeq (fFor (fItS (fVar 1)) (gtName 2) (fAsg (f2 gIx (fCall 1 (call 16) (fAc (fVar 0) fA0)) (fVar 2)) (gtName 0))) (fRet (fVar 0)))
/-- _law_put_at -/
noncomputable def b21 (call : Calls) : FS := (fSeq (fIf (fTest (f2 gEq (fVar 1) (fL gTup fA0))) (fRet (fVar 2)) fNext) (fSeq (fAsg (fCallL 1 (call 16) (fAc (fVar 0) fA0)) (gtName 3)) (fSeq (fStore (fCall 3 (call 21) (fAc (f2 gIx (fVar 3) (f2 gIx (fVar 1) (fC (.int 0)))) (fAc (fSl gSlA (fVar 1) (fPart (fC (.int 1))) fNoPart) (fAc (fVar 2) fA0)))) (fVar 3) (f2 gIx (fVar 1) (fC (.int 0)))) (fRet (fCall 2 (call 18) (fAc (fVar 0) (fAc (fVar 3) fA0)))))))
/-- _law_any_name -/
noncomputable def b22 (call : Calls) : FS := (fRet (fCall 2 (call 13) (fAc (fVar 0) (fAc (fL gLst (fAc (fC (.str "x")) (fAc (fC (.str "y")) (fAc (fC (.str "f")) (fAc (fC (.str "v0")) (fAc (fC (.str "v1")) (fAc (fC (.str "v2")) (fAc (fC (.str "g")) (fAc (fC (.str "aName_2")) (fAc (fC (.str "M.x")) (fAc (fC (.str "List.map")) (fAc (fC (.str "num")) (fAc (fC (.str "cell")) (fAc (fC (.str "x")) fA0)))))))))))))) fA0))))
/-- _law_any_small -/
noncomputable def b23 (call : Calls) : FS := (fRet (fCall 2 (call 13) (fAc (fVar 0) (fAc (fL gLst (fAc (fC (.str "x")) (fAc (fC (.str "y")) (fAc (fC (.str "f")) (fAc (fC (.str "v0")) (fAc (fC (.str "v1")) (fAc (fC (.str "g")) (fAc (fC (.str "a_1")) (fAc (fC (.str "truth")) (fAc (fC (.str "x")) (fAc (fC (.str "y")) (fAc (fC (.str "abcdefghijklmnopqrst")) fA0)))))))))))) fA0))))
/-- _law_any_maker -/
noncomputable def b24 (call : Calls) : FS := (fRet (fCall 2 (call 13) (fAc (fVar 0) (fAc (fL gLst (fAc (fC (.str "A")) (fAc (fC (.str "Cons")) (fAc (fC (.str "Nil")) (fAc (fC (.str "M.Cons")) (fAc (fC (.str "Some")) (fAc (fC (.str "B_2")) (fAc (fC (.str "A")) (fAc (fC (.str "Abcdefghijklmnopqrst.Z")) fA0))))))))) fA0))))
/-- _law_any_labels -/
noncomputable def b25 (call : Calls) : FS := (fRet (fL gSortA (fAc (fSl gSlA (fCall 2 (call 14) (fAc (fVar 0) (fAc (fL gLst (fAc (fC (.str "a")) (fAc (fC (.str "b")) (fAc (fC (.str "c")) (fAc (fC (.str "num")) (fAc (fC (.str "aB")) (fAc (fC (.str "x")) fA0))))))) fA0))) fNoPart (fPart (f2 gAdd (fVar 1) (fCall 2 (call 12) (fAc (fVar 0) (fAc (fC (.int 3)) fA0)))))) fA0)))
/-- _law_any_number -/
noncomputable def b26 (call : Calls) : FS := (fRet (fCall 2 (call 13) (fAc (fVar 0) (fAc (fL gLst (fAc (fC (.int 0)) (fAc (fC (.int 1)) (fAc (fC (.int 2)) (fAc (f1 gNeg (fC (.int 1))) (fAc (fC (.int 7)) (fAc (fC (.int 10)) (fAc (f1 gNeg (fC (.int 20))) (fAc (fC (.int 2147483647)) (fAc (f1 gNeg (fC (.int 2147483648))) (fAc (fC (.int 305)) (fAc (fC (.int 1)) fA0)))))))))))) fA0))))
/-- _law_any_pattern -/
noncomputable def b27 (call : Calls) : FS := (fSeq (fAsg (fIfE (fTest (f2 gGt (fVar 1) (fC (.int 0)))) (fCall 2 (call 12) (fAc (fVar 0) (fAc (fC (.int 9)) fA0))) (fCall 2 (call 12) (fAc (fVar 0) (fAc (fC (.int 5)) fA0)))) (gtName 3)) (fSeq (fIf (fOrT (fTest (f2 gEq (fVar 3) (fC (.int 0)))) (fAndT (fTest (f2 gEq (fVar 3) (fC (.int 1)))) (fTest (f2 gEq (fVar 2) (fL gLst fA0))))) (fRet (fL gTup (fAc (fC (.str "any")) fA0))) fNext) (fSeq (fIf (fTest (f2 gEq (fVar 3) (fC (.int 1)))) (fRet (fL gTup (fAc (fC (.str "bind")) (fAc (fMeth mPopAt (fVar 2) (fAc (fCall 2 (call 12) (fAc (fVar 0) (fAc (fL gLen (fAc (fVar 2) fA0)) fA0))) fA0)) fA0)))) fNext) (fSeq (fIf (fTest (f2 gEq (fVar 3) (fC (.int 2)))) (fRet (fCall 2 (call 13) (fAc (fVar 0) (fAc (fL gLst (fAc (fL gTup (fAc (fC (.str "num")) (fAc (fCall 1 (call 26) (fAc (fVar 0) fA0)) fA0))) (fAc (fL gTup (fAc (fC (.str "truth")) (fAc (fC (.bool true)) fA0))) (fAc (fL gTup (fAc (fC (.str "truth")) (fAc (fC (.bool false)) fA0))) fA0)))) fA0)))) fNext) (fSeq (fIf (fTest (f2 gLt (fVar 3) (fC (.int 5)))) (fRet (fIfE (fTest (f2 gEq (fVar 3) (fC (.int 3)))) (fL gTup (fAc (fC (.str "make")) (fAc (fCall 1 (call 24) (fAc (fVar 0) fA0)) (fAc (fC .none) fA0)))) (fL gTup (fAc (fC (.str "tuple")) (fAc (fL gTup fA0) fA0))))) fNext) (fSeq (fIf (fTest (f2 gLt (fVar 3) (fC (.int 7)))) (fSeq (fAsg (fCall 3 (call 27) (fAc (fVar 0) (fAc (f2 gSub (fVar 1) (fC (.int 1))) (fAc (fVar 2) fA0)))) (gtName 4)) (fRet (fL gTup (fAc (fC (.str "make")) (fAc (fCall 1 (call 24) (fAc (fVar 0) fA0)) (fAc (fVar 4) fA0)))))) fNext) (fSeq (fIf (fTest (f2 gEq (fVar 3) (fC (.int 7)))) (fRet (fL gTup (fAc (fC (.str "tuple")) (fAc (fL gTupleA (fAc (fLc (fRng rng1 (fAc (f2 gAdd (fC (.int 2)) (fCall 2 (call 12) (fAc (fVar 0) (fAc (fC (.int 2)) fA0)))) fA0)) (gtName 5) fYes (fCall 3 (call 27) (fAc (fVar 0) (fAc (f2 gSub (fVar 1) (fC (.int 1))) (fAc (fVar 2) fA0)))) [5]) fA0)) fA0)))) fNext) (fRet (fL gTup (fAc (fC (.str "record")) (fAc (fL gTupleA (fAc (fLc (fItS (fCall 2 (call 25) (fAc (fVar 0) (fAc (fC (.int 1)) fA0)))) (gtName 6) fYes (fL gTup (fAc (fVar 6) (fAc (fCall 3 (call 27) (fAc (fVar 0) (fAc (f2 gSub (fVar 1) (fC (.int 1))) (fAc (fVar 2) fA0)))) fA0))) [6]) fA0)) fA0)))))))))))
/-- _law_any_fn -/
noncomputable def b28 (call : Calls) : FS := (fRet (fL gTup (fAc (fC (.str "fn")) (fAc (fCall 1 (call 23) (fAc (fVar 0) fA0)) (fAc (fCall 2 (call 30) (fAc (fVar 0) (fAc (f2 gSub (fVar 1) (fC (.int 1))) fA0))) fA0)))))
/-- _law_any_rows -/
noncomputable def b29 (call : Calls) : FS := (fSeq (fAsg (fL gLive fA0) (gtName 2)) (fSeq (fFor (fRng rng1 (fAc (f2 gAdd (fC (.int 1)) (fCall 2 (call 12) (fAc (fVar 0) (fAc (fC (.int 3)) fA0)))) fA0)) (gtName 3) (fSeq (fAsg (fL gLive (fAc (fC (.str "x")) (fAc (fC (.str "y")) (fAc (fC (.str "f")) (fAc (fC (.str "v0")) (fAc (fC (.str "g")) fA0)))))) (gtName 4)) (fDrop (fMeth mAppend (fVar 2) (fAc (fL gTup (fAc (fCall 3 (call 27) (fAc (fVar 0) (fAc (fC (.int 2)) (fAc (fVar 4) fA0)))) (fAc (fCall 2 (call 30) (fAc (fVar 0) (fAc (fL gMax2 (fAc (fC (.int 0)) (fAc (f2 gSub (fVar 1) (fC (.int 2))) fA0))) fA0))) fA0))) fA0))))) (fRet (fL gTupleA (fAc (fVar 2) fA0)))))
/-- _law_any_term -/
noncomputable def b30 (call : Calls) : FS := (fSeq (fAsg (fIfE (fTest (f2 gGt (fVar 1) (fC (.int 0)))) (fCall 2 (call 12) (fAc (fVar 0) (fAc (fC (.int 22)) fA0))) (fCall 2 (call 12) (fAc (fVar 0) (fAc (fC (.int 5)) fA0)))) (gtName 2)) (fSeq (fIf (fTest (f2 gLt (fVar 2) (fC (.int 2)))) (fRet (fL gTup (fAc (fC (.str "name")) (fAc (fCall 1 (call 22) (fAc (fVar 0) fA0)) fA0)))) fNext) (fSeq (fIf (fTest (f2 gLt (fVar 2) (fC (.int 5)))) (fSeq (fAsg (fL gLst (fAc (fL gTup (fAc (fC (.str "num")) (fAc (fCall 1 (call 26) (fAc (fVar 0) fA0)) fA0))) (fAc (fL gTup (fAc (fC (.str "truth")) (fAc (f2 gEq (fVar 2) (fC (.int 3))) fA0))) (fAc (fL gTup (fAc (fC (.str "make")) (fAc (fCall 1 (call 24) (fAc (fVar 0) fA0)) (fAc (fC .none) fA0)))) (fAc (fL gTup (fAc (fC (.str "tuple")) (fAc (fL gTup fA0) fA0))) fA0))))) (gtName 3)) (fRet (fCall 2 (call 13) (fAc (fVar 0) (fAc (fVar 3) fA0))))) fNext) (fSeq (fIf (fTest (f2 gEq (fVar 2) (fC (.int 5)))) (fRet (fCall 2 (call 28) (fAc (fVar 0) (fAc (fVar 1) fA0)))) fNext) (fSeq (fIf (fTest (f2 gLt (fVar 2) (fC (.int 8)))) (fRet (fL gTup (fAc (fC (.str "call")) (fAc (fCall 2 (call 30) (fAc (fVar 0) (fAc (f2 gSub (fVar 1) (fC (.int 1))) fA0))) (fAc (fCall 2 (call 30) (fAc (fVar 0) (fAc (f2 gSub (fVar 1) (fC (.int 1))) fA0))) fA0))))) fNext) (fSeq (fIf (fTest (f2 gEq (fVar 2) (fC (.int 8)))) (fRet (fL gTup (fAc (fC (.str "let")) (fAc (fCall 1 (call 22) (fAc (fVar 0) fA0)) (fAc (fCall 2 (call 30) (fAc (fVar 0) (fAc (f2 gSub (fVar 1) (fC (.int 1))) fA0))) (fAc (fCall 2 (call 30) (fAc (fVar 0) (fAc (f2 gSub (fVar 1) (fC (.int 1))) fA0))) fA0)))))) fNext) (fSeq (fIf (fTest (f2 gEq (fVar 2) (fC (.int 9)))) (fSeq (fAsg (fSl gSlA (fCall 2 (call 14) (fAc (fVar 0) (fAc (fL gLst (fAc (fC (.str "f")) (fAc (fC (.str "g")) (fAc (fC (.str "x")) (fAc (fC (.str "M.x")) (fAc (fC (.str "v1")) fA0)))))) fA0))) fNoPart (fPart (f2 gAdd (fC (.int 1)) (fCall 2 (call 12) (fAc (fVar 0) (fAc (fC (.int 2)) fA0)))))) (gtName 4)) (fRet (fL gTup (fAc (fC (.str "rec")) (fAc (fL gTupleA (fAc (fLc (fItS (fVar 4)) (gtName 5) fYes (fL gTup (fAc (fVar 5) (fAc (fCall 2 (call 28) (fAc (fVar 0) (fAc (fVar 1) fA0))) fA0))) [5]) fA0)) (fAc (fCall 2 (call 30) (fAc (fVar 0) (fAc (f2 gSub (fVar 1) (fC (.int 1))) fA0))) fA0)))))) fNext) (fSeq (fIf (fTest (f2 gEq (fVar 2) (fC (.int 10)))) (fRet (f2 gAdd (fL gTup (fAc (fC (.str "if")) fA0)) (fL gTupleA (fAc (fLc (fRng rng1 (fAc (fC (.int 3)) fA0)) (gtName 6) fYes (fCall 2 (call 30) (fAc (fVar 0) (fAc (fL gMax2 (fAc (fC (.int 0)) (fAc (f2 gSub (fVar 1) (fC (.int 2))) fA0))) fA0))) [6]) fA0)))) fNext) (fSeq (fIf (fTest (f2 gEq (fVar 2) (fC (.int 11)))) (fRet (fL gTup (fAc (fC (.str "tuple")) (fAc (fL gTupleA (fAc (fLc (fRng rng1 (fAc (f2 gAdd (fC (.int 2)) (fCall 2 (call 12) (fAc (fVar 0) (fAc (fC (.int 2)) fA0)))) fA0)) (gtName 6) fYes (fCall 2 (call 30) (fAc (fVar 0) (fAc (fL gMax2 (fAc (fC (.int 0)) (fAc (f2 gSub (fVar 1) (fC (.int 2))) fA0))) fA0))) [6]) fA0)) fA0)))) fNext) (fSeq (fIf (fTest (f2 gEq (fVar 2) (fC (.int 12)))) (fSeq (fAsg (fCall 2 (call 25) (fAc (fVar 0) (fAc (fC (.int 1)) fA0))) (gtName 7)) (fRet (fL gTup (fAc (fC (.str "record")) (fAc (fL gTupleA (fAc (fLc (fItS (fVar 7)) (gtName 8) fYes (fL gTup (fAc (fVar 8) (fAc (fCall 2 (call 30) (fAc (fVar 0) (fAc (fL gMax2 (fAc (fC (.int 0)) (fAc (f2 gSub (fVar 1) (fC (.int 2))) fA0))) fA0))) fA0))) [8]) fA0)) fA0))))) fNext) (fSeq (fIf (fTest (f2 gLt (fVar 2) (fC (.int 15)))) (fRet (fL gTup (fAc (fC (.str "field")) (fAc (fCall 2 (call 30) (fAc (fVar 0) (fAc (f2 gSub (fVar 1) (fC (.int 1))) fA0))) (fAc (fCall 2 (call 13) (fAc (fVar 0) (fAc (fL gLst (fAc (fC (.str "a")) (fAc (fC (.str "b")) (fAc (fC (.str "num")) fA0)))) fA0))) fA0))))) fNext) (fSeq (fIf (fTest (f2 gLt (fVar 2) (fC (.int 17)))) (fRet (fL gTup (fAc (fC (.str "make")) (fAc (fCall 1 (call 24) (fAc (fVar 0) fA0)) (fAc (fCall 2 (call 30) (fAc (fVar 0) (fAc (f2 gSub (fVar 1) (fC (.int 1))) fA0))) fA0))))) fNext) (fSeq (fIf (fTest (f2 gEq (fVar 2) (fC (.int 17)))) (fRet (fL gTup (fAc (fC (.str "match")) (fAc (fCall 2 (call 30) (fAc (fVar 0) (fAc (f2 gSub (fVar 1) (fC (.int 1))) fA0))) (fAc (fCall 2 (call 29) (fAc (fVar 0) (fAc (fVar 1) fA0))) fA0))))) fNext) (fSeq (fIf (fTest (f2 gEq (fVar 2) (fC (.int 18)))) (fRet (fL gTup (fAc (fCall 2 (call 13) (fAc (fVar 0) (fAc (fL gLst (fAc (fC (.str "new")) (fAc (fC (.str "get")) (fAc (fC (.str "tell")) fA0)))) fA0))) (fAc (fCall 2 (call 30) (fAc (fVar 0) (fAc (f2 gSub (fVar 1) (fC (.int 1))) fA0))) fA0)))) fNext) (fSeq (fIf (fTest (f2 gEq (fVar 2) (fC (.int 19)))) (fRet (fL gTup (fAc (fC (.str "put")) (fAc (fCall 2 (call 30) (fAc (fVar 0) (fAc (f2 gSub (fVar 1) (fC (.int 1))) fA0))) (fAc (fCall 2 (call 30) (fAc (fVar 0) (fAc (f2 gSub (fVar 1) (fC (.int 1))) fA0))) fA0))))) fNext) (fSeq (fAsg (fCall 2 (call 13) (fAc (fVar 0) (fAc (fL gLst (fAc (fC (.str "+")) (fAc (fC (.str "-")) (fAc (fC (.str "*")) (fAc (fC (.str "<")) (fAc (fC (.str "=")) fA0)))))) fA0))) (gtName 9)) (fRet (fL gTup (fAc (fC (.str "op")) (fAc (fVar 9) (fAc (fCall 2 (call 30) (fAc (fVar 0) (fAc (f2 gSub (fVar 1) (fC (.int 1))) fA0))) (fAc (fCall 2 (call 30) (fAc (fVar 0) (fAc (f2 gSub (fVar 1) (fC (.int 1))) fA0))) fA0))))))))))))))))))))))
/-- _law_some_term -/
noncomputable def b31 (call : Calls) : FS := (fSeq (fFor (fRng rng1 (fAc (fC (.int 4)) fA0)) (gtName 2) (fSeq (fAsg (fCall 2 (call 30) (fAc (fVar 0) (fAc (fVar 1) fA0))) (gtName 3)) (fSeq (fIf (fTest (f2 gLe (fCall 1 (call 17) (fAc (fVar 3) fA0)) (fC (.int 150)))) (fRet (fVar 3)) fNext) (fAsg (fL gMax2 (fAc (fC (.int 1)) (fAc (f2 gSub (fVar 1) (fC (.int 1))) fA0))) (gtName 1))))) (fRet (fL gTup (fAc (fC (.str "tuple")) (fAc (fL gTup fA0) fA0)))))
/-- _law_is_put_right -/
noncomputable def b32 (call : Calls) : FS := (fSeq (fPar 4 5 (fAc (fCall 3 (call 10) (fAc (fVar 1) (fAc (fVar 2) (fAc (fVar 3) fA0)))) (fAc (fCall 3 (call 21) (fAc (fVar 1) (fAc (fVar 2) (fAc (fVar 3) fA0)))) fA0))) (fSeq (fIf (fNotT (fTru (fCall 2 (call 15) (fAc (fL gLst (fAc (fVar 4) (fAc (fCall 2 (call 9) (fAc (fVar 4) (fAc (fVar 2) fA0))) fA0))) (fAc (fL gLst (fAc (fVar 5) (fAc (fVar 3) fA0))) fA0))))) (fRet (fC (.bool false))) fNext) (fSeq (fFor (fItS (fSl gSlA (fCall 2 (call 14) (fAc (fVar 0) (fAc (fCall 1 (call 19) (fAc (fVar 1) fA0)) fA0))) fNoPart (fPart (fC (.int 6))))) (gtName 6) (fIf (fAndT (fTest (f2 gNe (fSl gSlA (fVar 6) fNoPart (fPart (fL gLen (fAc (fVar 2) fA0)))) (fVar 2))) (fTest (f2 gNe (fSl gSlA (fVar 2) fNoPart (fPart (fL gLen (fAc (fVar 6) fA0)))) (fVar 6)))) (fIf (fNotT (fTru (fCall 2 (call 15) (fAc (fCall 2 (call 9) (fAc (fVar 4) (fAc (fVar 6) fA0))) (fAc (fCall 2 (call 20) (fAc (fVar 1) (fAc (fVar 6) fA0))) fA0))))) (fRet (fC (.bool false))) fNext) fNext)) (fSeq (fAsg (fLc (fItS (fCall 1 (call 19) (fAc (fVar 3) fA0))) (gtName 8) fYes (f2 gAdd (fVar 2) (fVar 8)) [8]) (gtName 7)) (fSeq (fAsg (fLc (fItS (fCall 1 (call 19) (fAc (fVar 1) fA0))) (gtName 8) (fTest (f2 gNe (fSl gSlA (fVar 8) fNoPart (fPart (fL gLen (fAc (fVar 2) fA0)))) (fVar 2))) (fVar 8) [8]) (gtName 9)) (fRet (fCall 2 (call 15) (fAc (fCall 1 (call 7) (fAc (fVar 4) fA0)) (fAc (fL gTupleA (fAc (fL gSortA (fAc (f2 gAdd (fVar 9) (fVar 7)) fA0)) fA0)) fA0)))))))))
/-- _law_is_plain -/
noncomputable def b33 (call : Calls) : FS := (fRet (fOrV (f2 gEq (fVar 1) (fL gTup fA0)) (fOrV (f2 gNe (f2 gIx (fCall 2 (call 20) (fAc (fVar 0) (fAc (fSl gSlA (fVar 1) fNoPart (fPart (f1 gNeg (fC (.int 1))))) fA0))) (fC (.int 0))) (fC (.str "rec"))) (f2 gEq (f2 gIx (fVar 1) (f1 gNeg (fC (.int 1)))) (fL gLen (fAc (f2 gIx (fCall 2 (call 20) (fAc (fVar 0) (fAc (fSl gSlA (fVar 1) fNoPart (fPart (f1 gNeg (fC (.int 1))))) fA0))) (fC (.int 1))) fA0))))))
/-- law -/
noncomputable def b34 (call : Calls) : FS := (fSeq (fAsg (fCallL 1 (call 11) (fAc (fVar 0) fA0)) (gtName 1)) (fSeq (fFor (fRng rng1 (fAc (fC (.int 4)) fA0)) (gtName 2) (fSeq (fPar 3 4 (fAc (fCall 2 (call 31) (fAc (fVar 1) (fAc (fCall 2 (call 13) (fAc (fVar 1) (fAc (fL gLst (fAc (fC (.int 3)) (fAc (fC (.int 5)) (fAc (fC (.int 6)) fA0)))) fA0))) fA0))) (fAc (fCall 2 (call 31) (fAc (fVar 1) (fAc (fC (.int 2)) fA0))) fA0))) (fSeq (fPar 5 6 (fAc (fL gRepr (fAc (fL gLst (fAc (fVar 3) (fAc (fVar 4) fA0))) fA0)) (fAc (fCall 1 (call 19) (fAc (fVar 3) fA0)) fA0))) (fSeq (fIf (fNotT (fTru (fCall 2 (call 15) (fAc (fL gLst (fAc (fCall 1 (call 7) (fAc (fVar 3) fA0)) (fAc (fCall 1 (call 8) (fAc (fVar 3) fA0)) fA0))) (fAc (fL gLst (fAc (fL gTupleA (fAc (fVar 6) fA0)) (fAc (fL gLen (fAc (fVar 6) fA0)) fA0))) fA0))))) (fRet (fC (.bool false))) fNext) (fSeq (fFor (fItS (fSl gSlA (fCall 2 (call 14) (fAc (fVar 1) (fAc (fVar 6) fA0))) fNoPart (fPart (fC (.int 12))))) (gtName 7) (fSeq (fAsg (fCall 2 (call 20) (fAc (fVar 3) (fAc (fVar 7) fA0))) (gtName 8)) (fSeq (fAsg (fL gTupleA (fAc (fCall 1 (call 16) (fAc (fVar 8) fA0)) fA0)) (gtName 9)) (fSeq (fIf (fNotT (fTru (fCall 2 (call 15) (fAc (fL gLst (fAc (fCall 2 (call 9) (fAc (fVar 3) (fAc (fVar 7) fA0))) (fAc (fCall 1 (call 5) (fAc (fVar 8) fA0)) (fAc (fCall 2 (call 6) (fAc (fVar 8) (fAc (fVar 9) fA0))) fA0)))) (fAc (fL gLst (fAc (fVar 8) (fAc (fVar 9) (fAc (fVar 8) fA0)))) fA0))))) (fRet (fC (.bool false))) fNext) (fSeq (fAsg (fIfE (fTest (f2 gNe (f2 gIx (fVar 8) (fC (.int 0))) (fC (.str "rec")))) (f1 gRevB (fVar 9)) (f2 gAdd (fSl gSlA (fVar 9) fNoPart (fPart (f1 gNeg (fC (.int 1))))) (fL gTup (fAc (fVar 4) fA0)))) (gtName 10)) (fSeq (fIf (fNotT (fTru (fCall 2 (call 15) (fAc (fCall 2 (call 6) (fAc (fVar 8) (fAc (fVar 10) fA0))) (fAc (fCall 2 (call 18) (fAc (fVar 8) (fAc (fL gList (fAc (fVar 10) fA0)) fA0))) fA0))))) (fRet (fC (.bool false))) fNext) (fSeq (fAsg (fIfE (fTru (fCall 2 (call 33) (fAc (fVar 3) (fAc (fVar 7) fA0)))) (fVar 4) (fL gTup (fAc (fC (.str "fn")) (fAc (fC (.str "x")) (fAc (fVar 4) fA0))))) (gtName 11)) (fIf (fNotT (fTru (fCall 4 (call 32) (fAc (fVar 1) (fAc (fVar 3) (fAc (fVar 7) (fAc (fVar 11) fA0))))))) (fRet (fC (.bool false))) fNext)))))))) (fIf (fTest (f2 gNe (fL gRepr (fAc (fL gLst (fAc (fVar 3) (fAc (fVar 4) fA0))) fA0)) (fVar 5))) (fRet (fC (.bool false))) fNext)))))) (fRet (fC (.bool true)))))
noncomputable def callN : Nat → Calls
  | 0 => fun _ _ _ => .bad
  | n + 1 => fun id ws S => match id with
    | 0 => runB 4 (b0 (callN n)) ws S
    | 1 => runB 5 (b1 (callN n)) ws S
    | 2 => runB 5 (b2 (callN n)) ws S
    | 3 => runB 8 (b3 (callN n)) ws S
    | 4 => runB 5 (b4 (callN n)) ws S
    | 5 => runB 1 (b5 (callN n)) ws S
    | 6 => runB 2 (b6 (callN n)) ws S
    | 7 => runB 8 (b7 (callN n)) ws S
    | 8 => runB 1 (b8 (callN n)) ws S
    | 9 => runB 4 (b9 (callN n)) ws S
    | 10 => runB 7 (b10 (callN n)) ws S
    | 11 => runB 2 (b11 (callN n)) ws S
    | 12 => runB 7 (b12 (callN n)) ws S
    | 13 => runB 2 (b13 (callN n)) ws S
    | 14 => runB 4 (b14 (callN n)) ws S
    | 15 => runB 2 (b15 (callN n)) ws S
    | 16 => runB 4 (b16 (callN n)) ws S
    | 17 => runB 2 (b17 (callN n)) ws S
    | 18 => runB 6 (b18 (callN n)) ws S
    | 19 => runB 5 (b19 (callN n)) ws S
    | 20 => runB 3 (b20 (callN n)) ws S
    | 21 => runB 4 (b21 (callN n)) ws S
    | 22 => runB 1 (b22 (callN n)) ws S
    | 23 => runB 1 (b23 (callN n)) ws S
    | 24 => runB 1 (b24 (callN n)) ws S
    | 25 => runB 2 (b25 (callN n)) ws S
    | 26 => runB 1 (b26 (callN n)) ws S
    | 27 => runB 7 (b27 (callN n)) ws S
    | 28 => runB 2 (b28 (callN n)) ws S
    | 29 => runB 5 (b29 (callN n)) ws S
    | 30 => runB 10 (b30 (callN n)) ws S
    | 31 => runB 4 (b31 (callN n)) ws S
    | 32 => runB 10 (b32 (callN n)) ws S
    | 33 => runB 2 (b33 (callN n)) ws S
    | 34 => runB 12 (b34 (callN n)) ws S
    | _ => .bad
/-- the defs as they are called -/
structure Tab (P : Program) (w : World) (K : PySem.W.Frag) (mg : Str → Option Value) (base : Heap) (ct : Nat → Option Addr) (n : Nat) (call : Calls) : Prop where
  o0 : Callee P w K mg base ct n "standing" P0 (call 0)
  o1 : Callee P w K mg base ct n "refilled" P1 (call 1)
  o2 : Callee P w K mg base ct n "inner" P2 (call 2)
  o3 : Callee P w K mg base ct n "with_inner" P3 (call 3)
  o4 : Callee P w K mg base ct n "every" P4 (call 4)
  o5 : Callee P w K mg base ct n "parts_of" P5 (call 5)
  o6 : Callee P w K mg base ct n "with_parts" P6 (call 6)
  o7 : Callee P w K mg base ct n "places_of" P7 (call 7)
  o8 : Callee P w K mg base ct n "size_of" P8 (call 8)
  o9 : Callee P w K mg base ct n "part_at" P9 (call 9)
  o10 : Callee P w K mg base ct n "with_part" P10 (call 10)
  o11 : Callee P w K mg base ct n "_law_bag" P11 (call 11)
  o12 : Callee P w K mg base ct n "_law_take" P12 (call 12)
  o13 : Callee P w K mg base ct n "_law_some" P13 (call 13)
  o14 : Callee P w K mg base ct n "_law_mixed" P14 (call 14)
  o15 : Callee P w K mg base ct n "_law_alike" P15 (call 15)
  o16 : Callee P w K mg base ct n "_law_parts" P16 (call 16)
  o17 : Callee P w K mg base ct n "_law_size" P17 (call 17)
  o18 : Callee P w K mg base ct n "_law_with_parts" P18 (call 18)
  o19 : Callee P w K mg base ct n "_law_places" P19 (call 19)
  o20 : Callee P w K mg base ct n "_law_at" P20 (call 20)
  o21 : Callee P w K mg base ct n "_law_put_at" P21 (call 21)
  o22 : Callee P w K mg base ct n "_law_any_name" P22 (call 22)
  o23 : Callee P w K mg base ct n "_law_any_small" P23 (call 23)
  o24 : Callee P w K mg base ct n "_law_any_maker" P24 (call 24)
  o25 : Callee P w K mg base ct n "_law_any_labels" P25 (call 25)
  o26 : Callee P w K mg base ct n "_law_any_number" P26 (call 26)
  o27 : Callee P w K mg base ct n "_law_any_pattern" P27 (call 27)
  o28 : Callee P w K mg base ct n "_law_any_fn" P28 (call 28)
  o29 : Callee P w K mg base ct n "_law_any_rows" P29 (call 29)
  o30 : Callee P w K mg base ct n "_law_any_term" P30 (call 30)
  o31 : Callee P w K mg base ct n "_law_some_term" P31 (call 31)
  o32 : Callee P w K mg base ct n "_law_is_put_right" P32 (call 32)
  o33 : Callee P w K mg base ct n "_law_is_plain" P33 (call 33)
  o34 : Callee P w K mg base ct n "law" P34 (call 34)
  c_PAIRED : KCon K mg "PAIRED" k_PAIRED
  c_SHAPES : KDic P w K mg "SHAPES" k_SHAPES
  b_abs : mg "abs" = none
  b_enumerate : mg "enumerate" = none
  b_int : mg "int" = none
  b_len : mg "len" = none
  b_list : mg "list" = none
  b_max : mg "max" = none
  b_range : mg "range" = none
  b_repr : mg "repr" = none
  b_sorted : mg "sorted" = none
  b_sum : mg "sum" = none
  b_tuple : mg "tuple" = none
  b_zip : mg "zip" = none
/-! each keeps to it -/
section
variable {P : Program} {w : World} {K : PySem.W.Frag} {mg : Str → Option Value} {base : Heap} {ct : Nat → Option Addr} {n : Nat} {call : Calls} {f : Addr} {cdv : Value} {A : Around} {outer : List Env} {s : Shared} {H : Hp} {E : XK}
theorem d0 (T : Tab P w K mg base ct n call) (hr : Room n (A.deeper (envOfC "standing" (defScope st0) s.heap.objs.size f cdv))) (gd : A.guards = some []) (hS : FnScope N0 P0 (defScope st0) := sc0) :
    PSs (bodyX P w K mg base N0 "standing" (defScope st0) f cdv A outer s H E) (defBody st0) (tS ⟨K, ct⟩ NX (b0 call)) := by
  unfold b0
  exact (s_cons (s_if (t_cmp (sim_eq (hu64 hr)) (iv 0) is (by rfl)) (s_one (s_ret (i_lst (ac (iv 1) a0)))) s_nil) (s_cons (s_if (t_cmp (sim_eq (hu64 hr)) (iv 0) is (by rfl)) (s_one (s_ret (i_ife (t_cmp sim_isN (iv 1) inn (by rfl)) (i_lst a0) (i_lst (ac (iv 1) a0))))) s_nil) (s_cons (s_if (t_cmp sim_inA (iv 0) (i_tup (ac is (ac is a0))) (by rfl)) (s_one (s_ret (i_callT c_list (by rfl) T.b_list (by decide +kernel) (ac (iv 1) a0)))) s_nil) (s_cons (s_if (t_cmp sim_inA (iv 0) (kCon T.c_PAIRED) (by rfl)) (s_one (s_ret (i_lc (own := [("_", 2), ("second", 3)]) rfl hS.nd (w_seq (iv 1)) (blk_of (by kernel_rfl)) (fun _ _ _ _ _ => (gb_tup rfl rfl (gbs_cons (gb_name 2 hS.nd rfl (by decide)) (gbs_cons (gb_name 3 hS.nd rfl (by decide)) gbs_nil)))) (fun _ _ _ _ _ => ts_nil) (fun _ _ _ _ _ => (iv 3))))) s_nil) (s_one (s_ret (i_lst a0)))))))
theorem d1 (T : Tab P w K mg base ct n call) (hr : Room n (A.deeper (envOfC "refilled" (defScope st1) s.heap.objs.size f cdv))) (gd : A.guards = some []) (hS : FnScope N1 P1 (defScope st1) := sc1) :
    PSs (bodyX P w K mg base N1 "refilled" (defScope st1) f cdv A outer s H E) (defBody st1) (tS ⟨K, ct⟩ NX (b1 call)) := by
  unfold b1
  exact (s_cons (s_if (t_cmp sim_inA (iv 0) (i_tup (ac is (ac is a0))) (by rfl)) (s_one (s_ret (i_ife (t_tru (iv 2)) (i_ix (iv 2) ii) inn))) s_nil) (s_cons (s_if (t_cmp sim_inA (iv 0) (i_tup (ac is (ac is a0))) (by rfl)) (s_one (s_ret (i_callT c_tupleA (by rfl) T.b_tuple (by decide +kernel) (ac (iv 2) a0)))) s_nil) (s_cons (s_if (t_cmp sim_inA (iv 0) (kCon T.c_PAIRED) (by rfl)) (s_one (s_ret (i_callT c_tupleA (by rfl) T.b_tuple (by decide +kernel) (ac (i_lc (own := [("pair", 3), ("part", 4)]) rfl hS.nd (w_zip (by rfl) T.b_zip (ac (iv 1) (ac (iv 2) a0))) (blk_of (by kernel_rfl)) (fun _ _ _ _ _ => (gb_tup rfl rfl (gbs_cons (gb_name 3 hS.nd rfl (by decide)) (gbs_cons (gb_name 4 hS.nd rfl (by decide)) gbs_nil)))) (fun _ _ _ _ _ => ts_nil) (fun _ _ _ _ _ => (i_tup (ac (i_ix (iv 3) ii) (ac (iv 4) a0))))) a0)))) s_nil) (s_one (s_ret (iv 1))))))
theorem d2 (T : Tab P w K mg base ct n call) (hr : Room n (A.deeper (envOfC "inner" (defScope st2) s.heap.objs.size f cdv))) (gd : A.guards = some []) (hS : FnScope N2 P2 (defScope st2) := sc2) :
    PSs (bodyX P w K mg base N2 "inner" (defScope st2) f cdv A outer s H E) (defBody st2) (tS ⟨K, ct⟩ NX (b2 call)) := by
  unfold b2
  exact (s_cons (s_set 2 hS.nd (i_live a0)) (s_cons (s_for PassesOwn.never rfl (w_zip (by rfl) T.b_zip (ac (kDic T.c_SHAPES hr (i_tup (ac (iv 0) (ac (i_ix (iv 1) ii) a0)))) (ac (i_slA (iv 1) (o_some ii) o_none) a0))) (g_tup rfl (gs_cons (g_name 3 hS.nd ) (gs_cons (g_name 4 hS.nd ) gs_nil))) (s_one (s_expr (i_meth PySem.F.slot_list_extend PySem.F.type_list_extend m_extend (iv 2) (ac (cCall (T.o0) hr gd (ac (iv 3) (ac (iv 4) a0))) a0))))) (s_one (s_ret (iv 2)))))
theorem d3 (T : Tab P w K mg base ct n call) (hr : Room n (A.deeper (envOfC "with_inner" (defScope st3) s.heap.objs.size f cdv))) (gd : A.guards = some []) (hS : FnScope N3 P3 (defScope st3) := sc3) :
    PSs (bodyX P w K mg base N3 "with_inner" (defScope st3) f cdv A outer s H E) (defBody st3) (tS ⟨K, ct⟩ NX (b3 call)) := by
  unfold b3
  exact (s_cons (s_set 3 hS.nd (i_live (ac (i_ix (iv 1) ii) a0))) (s_cons (s_set 4 hS.nd ii) (s_cons (s_for PassesOwn.never rfl (w_zip (by rfl) T.b_zip (ac (kDic T.c_SHAPES hr (i_tup (ac (iv 0) (ac (i_ix (iv 1) ii) a0)))) (ac (i_slA (iv 1) (o_some ii) o_none) a0))) (g_tup rfl (gs_cons (g_name 5 hS.nd ) (gs_cons (g_name 6 hS.nd ) gs_nil))) (s_cons (s_set 7 hS.nd (i_callB c_len (by rfl) T.b_len (by decide +kernel) (ac (cCall (T.o0) hr gd (ac (iv 5) (ac (iv 6) a0))) a0))) (s_cons (s_expr (i_meth PySem.F.slot_list_append PySem.F.type_list_append m_append (iv 3) (ac (cCall (T.o1) hr gd (ac (iv 5) (ac (iv 6) (ac (i_slA (iv 2) (o_some (iv 4)) (o_some (i_op sim_add (iv 4) (iv 7)))) a0)))) a0))) (s_one (s_aug 4 hS.nd sim_iaddI (iv 7)))))) (s_one (s_ret (i_callT c_tupleA (by rfl) T.b_tuple (by decide +kernel) (ac (iv 3) a0)))))))
theorem d4 (T : Tab P w K mg base ct n call) (hr : Room n (A.deeper (envOfC "every" (defScope st4) s.heap.objs.size f cdv))) (gd : A.guards = some []) (hS : FnScope N4 P4 (defScope st4) := sc4) :
    PSs (bodyX P w K mg base N4 "every" (defScope st4) f cdv A outer s H E) (defBody st4) (tS ⟨K, ct⟩ NX (b4 call)) := by
  unfold b4
  exact (s_cons (s_set 2 hS.nd (i_live a0)) (s_cons (s_set 3 hS.nd (i_live (ac (iv 1) a0))) (s_cons (s_while 1000000 PassesOwn.never (t_tru (iv 3)) (s_cons (s_set 4 hS.nd (i_meth0 PySem.F.slot_list_pop PySem.F.type_list_pop m_pop (iv 3))) (s_cons (s_expr (i_meth PySem.F.slot_list_append PySem.F.type_list_append m_append (iv 2) (ac (iv 4) a0))) (s_one (s_expr (i_meth PySem.F.slot_list_extend PySem.F.type_list_extend m_extend (iv 3) (ac (i_revB (cCall (T.o2) hr gd (ac (iv 0) (ac (iv 4) a0)))) a0))))))) (s_one (s_ret (iv 2))))))
theorem d5 (T : Tab P w K mg base ct n call) (hr : Room n (A.deeper (envOfC "parts_of" (defScope st5) s.heap.objs.size f cdv))) (gd : A.guards = some []) (hS : FnScope N5 P5 (defScope st5) := sc5) :
    PSs (bodyX P w K mg base N5 "parts_of" (defScope st5) f cdv A outer s H E) (defBody st5) (tS ⟨K, ct⟩ NX (b5 call)) := by
  unfold b5
  exact (s_one (s_ret (i_callT c_tupleA (by rfl) T.b_tuple (by decide +kernel) (ac (cCall (T.o2) hr gd (ac is (ac (iv 0) a0))) a0))))
theorem d6 (T : Tab P w K mg base ct n call) (hr : Room n (A.deeper (envOfC "with_parts" (defScope st6) s.heap.objs.size f cdv))) (gd : A.guards = some []) (hS : FnScope N6 P6 (defScope st6) := sc6) :
    PSs (bodyX P w K mg base N6 "with_parts" (defScope st6) f cdv A outer s H E) (defBody st6) (tS ⟨K, ct⟩ NX (b6 call)) := by
  unfold b6
  exact (s_one (s_ret (cCall (T.o3) hr gd (ac is (ac (iv 0) (ac (i_callT c_list (by rfl) T.b_list (by decide +kernel) (ac (iv 1) a0)) a0))))))
theorem d7 (T : Tab P w K mg base ct n call) (hr : Room n (A.deeper (envOfC "places_of" (defScope st7) s.heap.objs.size f cdv))) (gd : A.guards = some []) (hS : FnScope N7 P7 (defScope st7) := sc7) :
    PSs (bodyX P w K mg base N7 "places_of" (defScope st7) f cdv A outer s H E) (defBody st7) (tS ⟨K, ct⟩ NX (b7 call)) := by
  unfold b7
  exact (s_cons (s_set 1 hS.nd (i_live a0)) (s_cons (s_set 2 hS.nd (i_live (ac (i_tup (ac (i_tup a0) (ac (iv 0) a0))) a0))) (s_cons (s_while 1000000 PassesOwn.never (t_tru (iv 2)) (s_cons (s_asg (i_meth0 PySem.F.slot_list_pop PySem.F.type_list_pop m_pop (iv 2)) (g_tup rfl (gs_cons (g_name 3 hS.nd ) (gs_cons (g_name 4 hS.nd ) gs_nil)))) (s_cons (s_expr (i_meth PySem.F.slot_list_append PySem.F.type_list_append m_append (iv 1) (ac (iv 3) a0))) (s_cons (s_setLc 5 (own := [("index", 6), ("part", 7)]) rfl hS.nd (sw_true rfl rfl rfl rfl) (w_enum (by rfl) T.b_enumerate (ac (cCall (T.o5) hr gd (ac (iv 4) a0)) a0)) (blk_of (by kernel_rfl)) (fun _ _ _ _ _ => (gb_tup rfl rfl (gbs_cons (gb_name 6 hS.nd rfl (by decide)) (gbs_cons (gb_name 7 hS.nd rfl (by decide)) gbs_nil)))) (fun _ _ _ _ _ => ts_nil) (fun _ _ _ _ _ => (i_tup (ac (i_op sim_add (iv 3) (i_tup (ac (iv 6) a0))) (ac (iv 7) a0))))) (s_one (s_expr (i_meth PySem.F.slot_list_extend PySem.F.type_list_extend m_extend (iv 2) (ac (i_revB (iv 5)) a0)))))))) (s_one (s_ret (i_callT c_tupleA (by rfl) T.b_tuple (by decide +kernel) (ac (iv 1) a0)))))))
theorem d8 (T : Tab P w K mg base ct n call) (hr : Room n (A.deeper (envOfC "size_of" (defScope st8) s.heap.objs.size f cdv))) (gd : A.guards = some []) (hS : FnScope N8 P8 (defScope st8) := sc8) :
    PSs (bodyX P w K mg base N8 "size_of" (defScope st8) f cdv A outer s H E) (defBody st8) (tS ⟨K, ct⟩ NX (b8 call)) := by
  unfold b8
  exact (s_one (s_ret (i_callB c_len (by rfl) T.b_len (by decide +kernel) (ac (cCall (T.o4) hr gd (ac is (ac (iv 0) a0))) a0))))
theorem d9 (T : Tab P w K mg base ct n call) (hr : Room n (A.deeper (envOfC "part_at" (defScope st9) s.heap.objs.size f cdv))) (gd : A.guards = some []) (hS : FnScope N9 P9 (defScope st9) := sc9) :
    PSs (bodyX P w K mg base N9 "part_at" (defScope st9) f cdv A outer s H E) (defBody st9) (tS ⟨K, ct⟩ NX (b9 call)) := by
  unfold b9
  exact (s_cons (s_set 2 hS.nd (iv 0)) (s_cons (s_for PassesOwn.never rfl (w_seq (iv 1)) (g_name 3 hS.nd ) (s_one (s_set 2 hS.nd (i_ix (cCall (T.o5) hr gd (ac (iv 2) a0)) (iv 3))))) (s_one (s_ret (iv 2)))))
theorem d10 (T : Tab P w K mg base ct n call) (hr : Room n (A.deeper (envOfC "with_part" (defScope st10) s.heap.objs.size f cdv))) (gd : A.guards = some []) (hS : FnScope N10 P10 (defScope st10) := sc10) :
    PSs (bodyX P w K mg base N10 "with_part" (defScope st10) f cdv A outer s H E) (defBody st10) (tS ⟨K, ct⟩ NX (b10 call)) := by
  unfold b10
  exact (s_cons (s_setLc 3 (own := [("depth", 4)]) rfl hS.nd (sw_true rfl rfl rfl rfl) (w_range1 (by rfl) T.b_range (ac (i_callB c_len (by rfl) T.b_len (by decide +kernel) (ac (iv 1) a0)) a0)) (blk_of (by kernel_rfl)) (fun _ _ _ _ _ => (gb_name 4 hS.nd rfl (by decide))) (fun _ _ _ _ _ => ts_nil) (fun _ _ _ _ _ => (cCall (T.o9) hr gd (ac (iv 0) (ac (i_slA (iv 1) o_none (o_some (iv 4))) a0))))) (s_cons (s_set 5 hS.nd (iv 2)) (s_cons (s_for PassesOwn.never rfl (w_range3 (by rfl) T.b_range (ac (i_op sim_sub (i_callB c_len (by rfl) T.b_len (by decide +kernel) (ac (iv 1) a0)) ii) (ac (i_neg ii) (ac (i_neg ii) a0)))) (g_name 4 hS.nd ) (s_cons (s_set 6 hS.nd (i_callT c_listL (by rfl) T.b_list (by decide +kernel) (ac (cCall (T.o5) hr gd (ac (i_ix (iv 3) (iv 4)) a0)) a0))) (s_cons (s_store (iv 5) (iv 6) (i_ix (iv 1) (iv 4))) (s_one (s_set 5 hS.nd (cCall (T.o6) hr gd (ac (i_ix (iv 3) (iv 4)) (ac (iv 6) a0)))))))) (s_one (s_ret (iv 5))))))
theorem d11 (T : Tab P w K mg base ct n call) (hr : Room n (A.deeper (envOfC "_law_bag" (defScope st11) s.heap.objs.size f cdv))) (gd : A.guards = some []) (hS : FnScope N11 P11 (defScope st11) := sc11) :
    PSs (bodyX P w K mg base N11 "_law_bag" (defScope st11) f cdv A outer s H E) (defBody st11) (tS ⟨K, ct⟩ NX (b11 call)) := by
  unfold b11
  exact (s_one (s_ret (i_live (ac ii (ac ii (ac ii (ac (i_lc (own := [("cell", 1)]) rfl hS.nd (w_seq (i_slA (iv 0) o_none (o_some ii))) (blk_of (by kernel_rfl)) (fun _ _ _ _ _ => (gb_name 1 hS.nd rfl (by decide))) (fun _ _ _ _ _ => ts_nil) (fun _ _ _ _ _ => (i_callB c_abs (by rfl) T.b_abs (by decide +kernel) (ac (iv 1) a0)))) a0)))))))
theorem d12 (T : Tab P w K mg base ct n call) (hr : Room n (A.deeper (envOfC "_law_take" (defScope st12) s.heap.objs.size f cdv))) (gd : A.guards = some []) (hS : FnScope N12 P12 (defScope st12) := sc12) :
    PSs (bodyX P w K mg base N12 "_law_take" (defScope st12) f cdv A outer s H E) (defBody st12) (tS ⟨K, ct⟩ NX (b12 call)) := by
  unfold b12
  exact (s_cons (s_if (t_cmp (sim_eq (hu64 hr)) (i_ix (iv 0) ii) ii (by rfl)) (s_cons (s_set 2 hS.nd (i_ix (i_op sim_add (i_slA (i_ix (iv 0) ii) (o_some (i_ix (iv 0) ii)) o_none) (i_lst (ac ii a0))) ii)) (s_cons (s_augAt sim_iaddI (iv 0) ii ii) (s_cons (s_if (t_cmp sim_ge (iv 2) (i_op sim_pow ii ii) (by rfl)) (s_one (s_store (iv 2) (iv 0) ii)) s_nil) (s_cons (s_set 3 hS.nd (i_op sim_add (i_op sim_add (i_op sim_mulA (i_ix (iv 0) ii) ii) (i_op sim_mod (i_callT c_intA (by rfl) T.b_int (by decide +kernel) (ac (iv 2) a0)) ii)) (i_op sim_mulA ii (i_ix (iv 0) ii)))) (s_one (s_store (i_op sim_mod (i_callT c_intA (by rfl) T.b_int (by decide +kernel) (ac (iv 3) a0)) ii) (iv 0) ii)))))) s_nil) (s_cons (s_if (t_cmp sim_gt (i_ix (iv 0) ii) ii (by rfl)) (s_cons (s_set 4 hS.nd (i_op sim_mod (i_callT c_intA (by rfl) T.b_int (by decide +kernel) (ac (i_ix (iv 0) ii) a0)) (iv 1))) (s_cons (s_store (i_op sim_div (i_callT c_intA (by rfl) T.b_int (by decide +kernel) (ac (i_ix (iv 0) ii) a0)) (iv 1)) (iv 0) ii) (s_one (s_ret (iv 4))))) s_nil) (s_cons (s_set 5 hS.nd (i_op sim_mod (i_callT c_intA (by rfl) T.b_int (by decide +kernel) (ac (i_op sim_mulA (i_op sim_add (i_ix (iv 0) ii) ii) ii) a0)) ii)) (s_cons (s_set 6 hS.nd (i_op sim_mod (i_callT c_intA (by rfl) T.b_int (by decide +kernel) (ac (i_op sim_mulA (i_op sim_mod (i_callT c_intA (by rfl) T.b_int (by decide +kernel) (ac (i_op sim_mulA (iv 5) (iv 5)) a0)) ii) ii) a0)) ii)) (s_one (s_ret (i_op sim_mod (i_callT c_intA (by rfl) T.b_int (by decide +kernel) (ac (i_op sim_div (iv 6) ii) a0)) (iv 1))))))))
theorem d13 (T : Tab P w K mg base ct n call) (hr : Room n (A.deeper (envOfC "_law_some" (defScope st13) s.heap.objs.size f cdv))) (gd : A.guards = some []) (hS : FnScope N13 P13 (defScope st13) := sc13) :
    PSs (bodyX P w K mg base N13 "_law_some" (defScope st13) f cdv A outer s H E) (defBody st13) (tS ⟨K, ct⟩ NX (b13 call)) := by
  unfold b13
  exact (s_one (s_ret (i_ix (iv 1) (cCall (T.o12) hr gd (ac (iv 0) (ac (i_callB c_len (by rfl) T.b_len (by decide +kernel) (ac (iv 1) a0)) a0))))))
theorem d14 (T : Tab P w K mg base ct n call) (hr : Room n (A.deeper (envOfC "_law_mixed" (defScope st14) s.heap.objs.size f cdv))) (gd : A.guards = some []) (hS : FnScope N14 P14 (defScope st14) := sc14) :
    PSs (bodyX P w K mg base N14 "_law_mixed" (defScope st14) f cdv A outer s H E) (defBody st14) (tS ⟨K, ct⟩ NX (b14 call)) := by
  unfold b14
  exact (s_cons (s_set 2 hS.nd (i_live a0)) (s_cons (s_for PassesOwn.never rfl (w_seq (iv 1)) (g_name 3 hS.nd ) (s_one (s_expr (i_meth PySem.F.slot_list_insert PySem.F.type_list_insert m_insert (iv 2) (ac (cCall (T.o12) hr gd (ac (iv 0) (ac (i_op sim_add (i_callB c_len (by rfl) T.b_len (by decide +kernel) (ac (iv 2) a0)) ii) a0))) (ac (iv 3) a0)))))) (s_one (s_ret (iv 2)))))
theorem d15 (T : Tab P w K mg base ct n call) (hr : Room n (A.deeper (envOfC "_law_alike" (defScope st15) s.heap.objs.size f cdv))) (gd : A.guards = some []) (hS : FnScope N15 P15 (defScope st15) := sc15) :
    PSs (bodyX P w K mg base N15 "_law_alike" (defScope st15) f cdv A outer s H E) (defBody st15) (tS ⟨K, ct⟩ NX (b15 call)) := by
  unfold b15
  exact (s_one (s_ret (i_and (i_cmp (sim_eq (hu64 hr)) (iv 0) (iv 1) (by rfl)) (i_one (i_cmp (sim_eq (hu64 hr)) (i_callB (c_repr gd (hu65 hr)) (by rfl) T.b_repr (by decide +kernel) (ac (iv 0) a0)) (i_callB (c_repr gd (hu65 hr)) (by rfl) T.b_repr (by decide +kernel) (ac (iv 1) a0)) (by rfl))))))
theorem d16 (T : Tab P w K mg base ct n call) (hr : Room n (A.deeper (envOfC "_law_parts" (defScope st16) s.heap.objs.size f cdv))) (gd : A.guards = some []) (hS : FnScope N16 P16 (defScope st16) := sc16) :
    PSs (bodyX P w K mg base N16 "_law_parts" (defScope st16) f cdv A outer s H E) (defBody st16) (tS ⟨K, ct⟩ NX (b16 call)) := by
  unfold b16
  exact (s_cons (s_set 1 hS.nd (i_ix (iv 0) ii)) (s_cons (s_if (t_cmp sim_inA (iv 1) (i_tup (ac is (ac is (ac is a0)))) (by rfl)) (s_one (s_ret (i_live a0))) s_nil) (s_cons (s_if (t_cmp (sim_eq (hu64 hr)) (iv 1) is (by rfl)) (s_one (s_ret (i_live (ac (i_ix (iv 0) ii) a0)))) s_nil) (s_cons (s_if (t_cmp (sim_eq (hu64 hr)) (iv 1) is (by rfl)) (s_one (s_ret (i_live (ac (i_ix (iv 0) ii) (ac (i_ix (iv 0) ii) a0))))) s_nil) (s_cons (s_if (t_cmp (sim_eq (hu64 hr)) (iv 1) is (by rfl)) (s_one (s_ret (i_op sim_addL (i_lc (own := [("one", 2)]) rfl hS.nd (w_seq (i_ix (iv 0) ii)) (blk_of (by kernel_rfl)) (fun _ _ _ _ _ => (gb_name 2 hS.nd rfl (by decide))) (fun _ _ _ _ _ => ts_nil) (fun _ _ _ _ _ => (i_ix (iv 2) ii))) (i_lst (ac (i_ix (iv 0) ii) a0))))) s_nil) (s_cons (s_if (t_cmp (sim_eq (hu64 hr)) (iv 1) is (by rfl)) (s_one (s_ret (i_callT c_listL (by rfl) T.b_list (by decide +kernel) (ac (i_ix (iv 0) ii) a0)))) s_nil) (s_cons (s_if (t_cmp (sim_eq (hu64 hr)) (iv 1) is (by rfl)) (s_one (s_ret (i_lcL (own := [("one", 2)]) rfl hS.nd (w_seq (i_ix (iv 0) ii)) (blk_of (by kernel_rfl)) (fun _ _ _ _ _ => (gb_name 2 hS.nd rfl (by decide))) (fun _ _ _ _ _ => ts_nil) (fun _ _ _ _ _ => (i_ix (iv 2) ii))))) s_nil) (s_cons (s_if (t_cmp (sim_eq (hu64 hr)) (iv 1) is (by rfl)) (s_one (s_ret (i_live (ac (i_ix (iv 0) ii) a0)))) s_nil) (s_cons (s_if (t_cmp (sim_eq (hu64 hr)) (iv 1) is (by rfl)) (s_one (s_ret (i_ife (t_cmp sim_notN (i_ix (iv 0) ii) inn (by rfl)) (i_live (ac (i_ix (iv 0) ii) a0)) (i_live a0)))) s_nil) (s_cons (s_if (t_cmp (sim_eq (hu64 hr)) (iv 1) is (by rfl)) (s_one (s_ret (i_op sim_addL (i_lst (ac (i_ix (iv 0) ii) a0)) (i_lc (own := [("row", 3)]) rfl hS.nd (w_seq (i_ix (iv 0) ii)) (blk_of (by kernel_rfl)) (fun _ _ _ _ _ => (gb_name 3 hS.nd rfl (by decide))) (fun _ _ _ _ _ => ts_nil) (fun _ _ _ _ _ => (i_ix (iv 3) ii)))))) s_nil) (s_one (s_ret (i_ife (t_cmp (sim_eq (hu64 hr)) (iv 1) is (by rfl)) (i_callT c_listL (by rfl) T.b_list (by decide +kernel) (ac (i_slA (iv 0) (o_some ii) o_none) a0)) (i_callT c_listL (by rfl) T.b_list (by decide +kernel) (ac (i_slA (iv 0) (o_some ii) o_none) a0)))))))))))))))
theorem d17 (T : Tab P w K mg base ct n call) (hr : Room n (A.deeper (envOfC "_law_size" (defScope st17) s.heap.objs.size f cdv))) (gd : A.guards = some []) (hS : FnScope N17 P17 (defScope st17) := sc17) :
    PSs (bodyX P w K mg base N17 "_law_size" (defScope st17) f cdv A outer s H E) (defBody st17) (tS ⟨K, ct⟩ NX (b17 call)) := by
  unfold b17
  exact (s_one (s_ret (i_op sim_add ii (i_callB (c_sum rfl) (by rfl) T.b_sum (by decide +kernel) (ac (i_lc (own := [("part", 1)]) rfl hS.nd (w_seq (cCall (T.o16) hr gd (ac (iv 0) a0))) (blk_of (by kernel_rfl)) (fun _ _ _ _ _ => (gb_name 1 hS.nd rfl (by decide))) (fun _ _ _ _ _ => ts_nil) (fun _ _ _ _ _ => (cCall (T.o17) hr gd (ac (iv 1) a0)))) a0)))))
theorem d18 (T : Tab P w K mg base ct n call) (hr : Room n (A.deeper (envOfC "_law_with_parts" (defScope st18) s.heap.objs.size f cdv))) (gd : A.guards = some []) (hS : FnScope N18 P18 (defScope st18) := sc18) :
    PSs (bodyX P w K mg base N18 "_law_with_parts" (defScope st18) f cdv A outer s H E) (defBody st18) (tS ⟨K, ct⟩ NX (b18 call)) := by
  unfold b18
  exact (s_cons (s_set 2 hS.nd (i_ix (iv 0) ii)) (s_cons (s_if (t_cmp sim_inA (iv 2) (i_tup (ac is (ac is (ac is a0)))) (by rfl)) (s_one (s_ret (iv 0))) s_nil) (s_cons (s_if (t_cmp (sim_eq (hu64 hr)) (iv 2) is (by rfl)) (s_one (s_ret (i_tup (ac is (ac (i_ix (iv 0) ii) (ac (i_ix (iv 1) ii) a0)))))) s_nil) (s_cons (s_if (t_cmp (sim_eq (hu64 hr)) (iv 2) is (by rfl)) (s_one (s_ret (i_tup (ac is (ac (i_ix (iv 0) ii) (ac (i_ix (iv 1) ii) (ac (i_ix (iv 1) ii) a0))))))) s_nil) (s_cons (s_if (t_cmp (sim_eq (hu64 hr)) (iv 2) is (by rfl)) (s_one (s_ret (i_tup (ac is (ac (i_callT c_tupleA (by rfl) T.b_tuple (by decide +kernel) (ac (i_lc (own := [("one", 3), ("part", 4)]) rfl hS.nd (w_zip (by rfl) T.b_zip (ac (i_ix (iv 0) ii) (ac (iv 1) a0))) (blk_of (by kernel_rfl)) (fun _ _ _ _ _ => (gb_tup rfl rfl (gbs_cons (gb_name 3 hS.nd rfl (by decide)) (gbs_cons (gb_name 4 hS.nd rfl (by decide)) gbs_nil)))) (fun _ _ _ _ _ => ts_nil) (fun _ _ _ _ _ => (i_tup (ac (i_ix (iv 3) ii) (ac (iv 4) a0))))) a0)) (ac (i_ix (iv 1) (i_neg ii)) a0)))))) s_nil) (s_cons (s_if (t_cmp (sim_eq (hu64 hr)) (iv 2) is (by rfl)) (s_one (s_ret (i_tup (ac is (ac (i_callT c_tupleA (by rfl) T.b_tuple (by decide +kernel) (ac (iv 1) a0)) a0))))) s_nil) (s_cons (s_if (t_cmp (sim_eq (hu64 hr)) (iv 2) is (by rfl)) (s_one (s_ret (i_tup (ac is (ac (i_callT c_tupleA (by rfl) T.b_tuple (by decide +kernel) (ac (i_lc (own := [("one", 3), ("part", 4)]) rfl hS.nd (w_zip (by rfl) T.b_zip (ac (i_ix (iv 0) ii) (ac (iv 1) a0))) (blk_of (by kernel_rfl)) (fun _ _ _ _ _ => (gb_tup rfl rfl (gbs_cons (gb_name 3 hS.nd rfl (by decide)) (gbs_cons (gb_name 4 hS.nd rfl (by decide)) gbs_nil)))) (fun _ _ _ _ _ => ts_nil) (fun _ _ _ _ _ => (i_tup (ac (i_ix (iv 3) ii) (ac (iv 4) a0))))) a0)) a0))))) s_nil) (s_cons (s_if (t_cmp (sim_eq (hu64 hr)) (iv 2) is (by rfl)) (s_one (s_ret (i_tup (ac is (ac (i_ix (iv 1) ii) (ac (i_ix (iv 0) ii) a0)))))) s_nil) (s_cons (s_if (t_cmp (sim_eq (hu64 hr)) (iv 2) is (by rfl)) (s_one (s_ret (i_tup (ac is (ac (i_ix (iv 0) ii) (ac (i_ife (t_cmp sim_notN (i_ix (iv 0) ii) inn (by rfl)) (i_ix (iv 1) ii) inn) a0)))))) s_nil) (s_cons (s_if (t_cmp (sim_eq (hu64 hr)) (iv 2) is (by rfl)) (s_one (s_ret (i_tup (ac is (ac (i_ix (iv 1) ii) (ac (i_callT c_tupleA (by rfl) T.b_tuple (by decide +kernel) (ac (i_lc (own := [("row", 5), ("part", 4)]) rfl hS.nd (w_zip (by rfl) T.b_zip (ac (i_ix (iv 0) ii) (ac (i_slA (iv 1) (o_some ii) o_none) a0))) (blk_of (by kernel_rfl)) (fun _ _ _ _ _ => (gb_tup rfl rfl (gbs_cons (gb_name 5 hS.nd rfl (by decide)) (gbs_cons (gb_name 4 hS.nd rfl (by decide)) gbs_nil)))) (fun _ _ _ _ _ => ts_nil) (fun _ _ _ _ _ => (i_tup (ac (i_ix (iv 5) ii) (ac (iv 4) a0))))) a0)) a0)))))) s_nil) (s_one (s_ret (i_ife (t_cmp (sim_eq (hu64 hr)) (iv 2) is (by rfl)) (i_tup (ac is (ac (i_ix (iv 0) ii) (ac (i_ix (iv 1) ii) (ac (i_ix (iv 1) ii) a0))))) (i_op sim_add (i_tup (ac (iv 2) a0)) (i_callT c_tupleA (by rfl) T.b_tuple (by decide +kernel) (ac (iv 1) a0))))))))))))))))
theorem d19 (T : Tab P w K mg base ct n call) (hr : Room n (A.deeper (envOfC "_law_places" (defScope st19) s.heap.objs.size f cdv))) (gd : A.guards = some []) (hS : FnScope N19 P19 (defScope st19) := sc19) :
    PSs (bodyX P w K mg base N19 "_law_places" (defScope st19) f cdv A outer s H E) (defBody st19) (tS ⟨K, ct⟩ NX (b19 call)) := by
  unfold b19
  exact (s_cons (s_set 1 hS.nd (i_live (ac (i_tup a0) a0))) (s_cons (s_for PassesOwn.never rfl (w_enum (by rfl) T.b_enumerate (ac (cCall (T.o16) hr gd (ac (iv 0) a0)) a0)) (g_tup rfl (gs_cons (g_name 2 hS.nd ) (gs_cons (g_name 3 hS.nd ) gs_nil))) (s_one (s_expr (i_meth PySem.F.slot_list_extend PySem.F.type_list_extend m_extend (iv 1) (ac (i_lc (own := [("place", 4)]) rfl hS.nd (w_seq (cCall (T.o19) hr gd (ac (iv 3) a0))) (blk_of (by kernel_rfl)) (fun _ _ _ _ _ => (gb_name 4 hS.nd rfl (by decide))) (fun _ _ _ _ _ => ts_nil) (fun _ _ _ _ _ => (i_op sim_add (i_tup (ac (iv 2) a0)) (iv 4)))) a0))))) (s_one (s_ret (iv 1)))))
theorem d20 (T : Tab P w K mg base ct n call) (hr : Room n (A.deeper (envOfC "_law_at" (defScope st20) s.heap.objs.size f cdv))) (gd : A.guards = some []) (hS : FnScope N20 P20 (defScope st20) := sc20) :
    PSs (bodyX P w K mg base N20 "_law_at" (defScope st20) f cdv A outer s H E) (defBody st20) (tS ⟨K, ct⟩ NX (b20 call)) := by
  unfold b20
  exact (s_cons (s_for PassesOwn.never rfl (w_seq (iv 1)) (g_name 2 hS.nd ) (s_one (s_set 0 hS.nd (i_ix (cCall (T.o16) hr gd (ac (iv 0) a0)) (iv 2))))) (s_one (s_ret (iv 0))))
theorem d21 (T : Tab P w K mg base ct n call) (hr : Room n (A.deeper (envOfC "_law_put_at" (defScope st21) s.heap.objs.size f cdv))) (gd : A.guards = some []) (hS : FnScope N21 P21 (defScope st21) := sc21) :
    PSs (bodyX P w K mg base N21 "_law_put_at" (defScope st21) f cdv A outer s H E) (defBody st21) (tS ⟨K, ct⟩ NX (b21 call)) := by
  unfold b21
  exact (s_cons (s_if (t_cmp (sim_eq (hu64 hr)) (iv 1) (i_tup a0) (by rfl)) (s_one (s_ret (iv 2))) s_nil) (s_cons (s_set 3 hS.nd (cCallL (T.o16) hr gd (ac (iv 0) a0))) (s_cons (s_store (cCall (T.o21) hr gd (ac (i_ix (iv 3) (i_ix (iv 1) ii)) (ac (i_slA (iv 1) (o_some ii) o_none) (ac (iv 2) a0)))) (iv 3) (i_ix (iv 1) ii)) (s_one (s_ret (cCall (T.o18) hr gd (ac (iv 0) (ac (iv 3) a0))))))))
theorem d22 (T : Tab P w K mg base ct n call) (hr : Room n (A.deeper (envOfC "_law_any_name" (defScope st22) s.heap.objs.size f cdv))) (gd : A.guards = some []) (hS : FnScope N22 P22 (defScope st22) := sc22) :
    PSs (bodyX P w K mg base N22 "_law_any_name" (defScope st22) f cdv A outer s H E) (defBody st22) (tS ⟨K, ct⟩ NX (b22 call)) := by
  unfold b22
  exact (s_one (s_ret (cCall (T.o13) hr gd (ac (iv 0) (ac (i_lst (ac is (ac is (ac is (ac is (ac is (ac is (ac is (ac is (ac is (ac is (ac is (ac is (ac is a0)))))))))))))) a0)))))
theorem d23 (T : Tab P w K mg base ct n call) (hr : Room n (A.deeper (envOfC "_law_any_small" (defScope st23) s.heap.objs.size f cdv))) (gd : A.guards = some []) (hS : FnScope N23 P23 (defScope st23) := sc23) :
    PSs (bodyX P w K mg base N23 "_law_any_small" (defScope st23) f cdv A outer s H E) (defBody st23) (tS ⟨K, ct⟩ NX (b23 call)) := by
  unfold b23
  exact (s_one (s_ret (cCall (T.o13) hr gd (ac (iv 0) (ac (i_lst (ac is (ac is (ac is (ac is (ac is (ac is (ac is (ac is (ac is (ac is (ac is a0)))))))))))) a0)))))
theorem d24 (T : Tab P w K mg base ct n call) (hr : Room n (A.deeper (envOfC "_law_any_maker" (defScope st24) s.heap.objs.size f cdv))) (gd : A.guards = some []) (hS : FnScope N24 P24 (defScope st24) := sc24) :
    PSs (bodyX P w K mg base N24 "_law_any_maker" (defScope st24) f cdv A outer s H E) (defBody st24) (tS ⟨K, ct⟩ NX (b24 call)) := by
  unfold b24
  exact (s_one (s_ret (cCall (T.o13) hr gd (ac (iv 0) (ac (i_lst (ac is (ac is (ac is (ac is (ac is (ac is (ac is (ac is a0))))))))) a0)))))
theorem d25 (T : Tab P w K mg base ct n call) (hr : Room n (A.deeper (envOfC "_law_any_labels" (defScope st25) s.heap.objs.size f cdv))) (gd : A.guards = some []) (hS : FnScope N25 P25 (defScope st25) := sc25) :
    PSs (bodyX P w K mg base N25 "_law_any_labels" (defScope st25) f cdv A outer s H E) (defBody st25) (tS ⟨K, ct⟩ NX (b25 call)) := by
  unfold b25
  exact (s_one (s_ret (i_callB (c_sortedA (hu64 hr)) (by rfl) T.b_sorted (by decide +kernel) (ac (i_slA (cCall (T.o14) hr gd (ac (iv 0) (ac (i_lst (ac is (ac is (ac is (ac is (ac is (ac is a0))))))) a0))) o_none (o_some (i_op sim_add (iv 1) (cCall (T.o12) hr gd (ac (iv 0) (ac ii a0)))))) a0))))
theorem d26 (T : Tab P w K mg base ct n call) (hr : Room n (A.deeper (envOfC "_law_any_number" (defScope st26) s.heap.objs.size f cdv))) (gd : A.guards = some []) (hS : FnScope N26 P26 (defScope st26) := sc26) :
    PSs (bodyX P w K mg base N26 "_law_any_number" (defScope st26) f cdv A outer s H E) (defBody st26) (tS ⟨K, ct⟩ NX (b26 call)) := by
  unfold b26
  exact (s_one (s_ret (cCall (T.o13) hr gd (ac (iv 0) (ac (i_lst (ac ii (ac ii (ac ii (ac (i_neg ii) (ac ii (ac ii (ac (i_neg ii) (ac ii (ac (i_neg ii) (ac ii (ac ii a0)))))))))))) a0)))))
theorem d27 (T : Tab P w K mg base ct n call) (hr : Room n (A.deeper (envOfC "_law_any_pattern" (defScope st27) s.heap.objs.size f cdv))) (gd : A.guards = some []) (hS : FnScope N27 P27 (defScope st27) := sc27) :
    PSs (bodyX P w K mg base N27 "_law_any_pattern" (defScope st27) f cdv A outer s H E) (defBody st27) (tS ⟨K, ct⟩ NX (b27 call)) := by
  unfold b27
  exact (s_cons (s_set 3 hS.nd (i_ife (t_cmp sim_gt (iv 1) ii (by rfl)) (cCall (T.o12) hr gd (ac (iv 0) (ac ii a0))) (cCall (T.o12) hr gd (ac (iv 0) (ac ii a0))))) (s_cons (s_if ((w_or (t_cmp (sim_eq (hu64 hr)) (iv 3) ii (by rfl)) (w_or1 ((w_and (t_cmp (sim_eq (hu64 hr)) (iv 3) ii (by rfl)) (w_and1 (t_cmp (sim_eq (hu64 hr)) (iv 2) (i_lst a0) (by rfl))))).pt))).pt (s_one (s_ret (i_tup (ac is a0)))) s_nil) (s_cons (s_if (t_cmp (sim_eq (hu64 hr)) (iv 3) ii (by rfl)) (s_one (s_ret (i_tup (ac is (ac (i_meth PySem.F.slot_list_pop PySem.F.type_list_pop m_popAt (iv 2) (ac (cCall (T.o12) hr gd (ac (iv 0) (ac (i_callB c_len (by rfl) T.b_len (by decide +kernel) (ac (iv 2) a0)) a0))) a0)) a0))))) s_nil) (s_cons (s_if (t_cmp (sim_eq (hu64 hr)) (iv 3) ii (by rfl)) (s_one (s_ret (cCall (T.o13) hr gd (ac (iv 0) (ac (i_lst (ac (i_tup (ac is (ac (cCall (T.o26) hr gd (ac (iv 0) a0)) a0))) (ac (i_tup (ac is (ac ib a0))) (ac (i_tup (ac is (ac ib a0))) a0)))) a0))))) s_nil) (s_cons (s_if (t_cmp sim_lt (iv 3) ii (by rfl)) (s_one (s_ret (i_ife (t_cmp (sim_eq (hu64 hr)) (iv 3) ii (by rfl)) (i_tup (ac is (ac (cCall (T.o24) hr gd (ac (iv 0) a0)) (ac inn a0)))) (i_tup (ac is (ac (i_tup a0) a0)))))) s_nil) (s_cons (s_if (t_cmp sim_lt (iv 3) ii (by rfl)) (s_cons (s_set 4 hS.nd (cCall (T.o27) hr gd (ac (iv 0) (ac (i_op sim_sub (iv 1) ii) (ac (iv 2) a0))))) (s_one (s_ret (i_tup (ac is (ac (cCall (T.o24) hr gd (ac (iv 0) a0)) (ac (iv 4) a0))))))) s_nil) (s_cons (s_if (t_cmp (sim_eq (hu64 hr)) (iv 3) ii (by rfl)) (s_one (s_ret (i_tup (ac is (ac (i_callT c_tupleA (by rfl) T.b_tuple (by decide +kernel) (ac (i_lc (own := [("turn", 5)]) rfl hS.nd (w_range1 (by rfl) T.b_range (ac (i_op sim_add ii (cCall (T.o12) hr gd (ac (iv 0) (ac ii a0)))) a0)) (blk_of (by kernel_rfl)) (fun _ _ _ _ _ => (gb_name 5 hS.nd rfl (by decide))) (fun _ _ _ _ _ => ts_nil) (fun _ _ _ _ _ => (cCall (T.o27) hr gd (ac (iv 0) (ac (i_op sim_sub (iv 1) ii) (ac (iv 2) a0)))))) a0)) a0))))) s_nil) (s_one (s_ret (i_tup (ac is (ac (i_callT c_tupleA (by rfl) T.b_tuple (by decide +kernel) (ac (i_lc (own := [("label", 6)]) rfl hS.nd (w_seq (cCall (T.o25) hr gd (ac (iv 0) (ac ii a0)))) (blk_of (by kernel_rfl)) (fun _ _ _ _ _ => (gb_name 6 hS.nd rfl (by decide))) (fun _ _ _ _ _ => ts_nil) (fun _ _ _ _ _ => (i_tup (ac (iv 6) (ac (cCall (T.o27) hr gd (ac (iv 0) (ac (i_op sim_sub (iv 1) ii) (ac (iv 2) a0)))) a0))))) a0)) a0))))))))))))
theorem d28 (T : Tab P w K mg base ct n call) (hr : Room n (A.deeper (envOfC "_law_any_fn" (defScope st28) s.heap.objs.size f cdv))) (gd : A.guards = some []) (hS : FnScope N28 P28 (defScope st28) := sc28) :
    PSs (bodyX P w K mg base N28 "_law_any_fn" (defScope st28) f cdv A outer s H E) (defBody st28) (tS ⟨K, ct⟩ NX (b28 call)) := by
  unfold b28
  exact (s_one (s_ret (i_tup (ac is (ac (cCall (T.o23) hr gd (ac (iv 0) a0)) (ac (cCall (T.o30) hr gd (ac (iv 0) (ac (i_op sim_sub (iv 1) ii) a0))) a0))))))
theorem d29 (T : Tab P w K mg base ct n call) (hr : Room n (A.deeper (envOfC "_law_any_rows" (defScope st29) s.heap.objs.size f cdv))) (gd : A.guards = some []) (hS : FnScope N29 P29 (defScope st29) := sc29) :
    PSs (bodyX P w K mg base N29 "_law_any_rows" (defScope st29) f cdv A outer s H E) (defBody st29) (tS ⟨K, ct⟩ NX (b29 call)) := by
  unfold b29
  exact (s_cons (s_set 2 hS.nd (i_live a0)) (s_cons (s_for PassesOwn.never rfl (w_range1 (by rfl) T.b_range (ac (i_op sim_add ii (cCall (T.o12) hr gd (ac (iv 0) (ac ii a0)))) a0)) (g_name 3 hS.nd ) (s_cons (s_set 4 hS.nd (i_live (ac is (ac is (ac is (ac is (ac is a0))))))) (s_one (s_expr (i_meth PySem.F.slot_list_append PySem.F.type_list_append m_append (iv 2) (ac (i_tup (ac (cCall (T.o27) hr gd (ac (iv 0) (ac ii (ac (iv 4) a0)))) (ac (cCall (T.o30) hr gd (ac (iv 0) (ac (i_callB (c_max2 rfl) (by rfl) T.b_max (by decide +kernel) (ac ii (ac (i_op sim_sub (iv 1) ii) a0))) a0))) a0))) a0)))))) (s_one (s_ret (i_callT c_tupleA (by rfl) T.b_tuple (by decide +kernel) (ac (iv 2) a0))))))
theorem d30 (T : Tab P w K mg base ct n call) (hr : Room n (A.deeper (envOfC "_law_any_term" (defScope st30) s.heap.objs.size f cdv))) (gd : A.guards = some []) (hS : FnScope N30 P30 (defScope st30) := sc30) :
    PSs (bodyX P w K mg base N30 "_law_any_term" (defScope st30) f cdv A outer s H E) (defBody st30) (tS ⟨K, ct⟩ NX (b30 call)) := by
  unfold b30
  exact (s_cons (s_set 2 hS.nd (i_ife (t_cmp sim_gt (iv 1) ii (by rfl)) (cCall (T.o12) hr gd (ac (iv 0) (ac ii a0))) (cCall (T.o12) hr gd (ac (iv 0) (ac ii a0))))) (s_cons (s_if (t_cmp sim_lt (iv 2) ii (by rfl)) (s_one (s_ret (i_tup (ac is (ac (cCall (T.o22) hr gd (ac (iv 0) a0)) a0))))) s_nil) (s_cons (s_if (t_cmp sim_lt (iv 2) ii (by rfl)) (s_cons (s_set 3 hS.nd (i_lst (ac (i_tup (ac is (ac (cCall (T.o26) hr gd (ac (iv 0) a0)) a0))) (ac (i_tup (ac is (ac (i_cmp (sim_eq (hu64 hr)) (iv 2) ii (by rfl)) a0))) (ac (i_tup (ac is (ac (cCall (T.o24) hr gd (ac (iv 0) a0)) (ac inn a0)))) (ac (i_tup (ac is (ac (i_tup a0) a0))) a0)))))) (s_one (s_ret (cCall (T.o13) hr gd (ac (iv 0) (ac (iv 3) a0)))))) s_nil) (s_cons (s_if (t_cmp (sim_eq (hu64 hr)) (iv 2) ii (by rfl)) (s_one (s_ret (cCall (T.o28) hr gd (ac (iv 0) (ac (iv 1) a0))))) s_nil) (s_cons (s_if (t_cmp sim_lt (iv 2) ii (by rfl)) (s_one (s_ret (i_tup (ac is (ac (cCall (T.o30) hr gd (ac (iv 0) (ac (i_op sim_sub (iv 1) ii) a0))) (ac (cCall (T.o30) hr gd (ac (iv 0) (ac (i_op sim_sub (iv 1) ii) a0))) a0)))))) s_nil) (s_cons (s_if (t_cmp (sim_eq (hu64 hr)) (iv 2) ii (by rfl)) (s_one (s_ret (i_tup (ac is (ac (cCall (T.o22) hr gd (ac (iv 0) a0)) (ac (cCall (T.o30) hr gd (ac (iv 0) (ac (i_op sim_sub (iv 1) ii) a0))) (ac (cCall (T.o30) hr gd (ac (iv 0) (ac (i_op sim_sub (iv 1) ii) a0))) a0))))))) s_nil) (s_cons (s_if (t_cmp (sim_eq (hu64 hr)) (iv 2) ii (by rfl)) (s_cons (s_set 4 hS.nd (i_slA (cCall (T.o14) hr gd (ac (iv 0) (ac (i_lst (ac is (ac is (ac is (ac is (ac is a0)))))) a0))) o_none (o_some (i_op sim_add ii (cCall (T.o12) hr gd (ac (iv 0) (ac ii a0))))))) (s_one (s_ret (i_tup (ac is (ac (i_callT c_tupleA (by rfl) T.b_tuple (by decide +kernel) (ac (i_lc (own := [("name", 5)]) rfl hS.nd (w_seq (iv 4)) (blk_of (by kernel_rfl)) (fun _ _ _ _ _ => (gb_name 5 hS.nd rfl (by decide))) (fun _ _ _ _ _ => ts_nil) (fun _ _ _ _ _ => (i_tup (ac (iv 5) (ac (cCall (T.o28) hr gd (ac (iv 0) (ac (iv 1) a0))) a0))))) a0)) (ac (cCall (T.o30) hr gd (ac (iv 0) (ac (i_op sim_sub (iv 1) ii) a0))) a0))))))) s_nil) (s_cons (s_if (t_cmp (sim_eq (hu64 hr)) (iv 2) ii (by rfl)) (s_one (s_ret (i_op sim_add (i_tup (ac is a0)) (i_callT c_tupleA (by rfl) T.b_tuple (by decide +kernel) (ac (i_lc (own := [("turn", 6)]) rfl hS.nd (w_range1 (by rfl) T.b_range (ac ii a0)) (blk_of (by kernel_rfl)) (fun _ _ _ _ _ => (gb_name 6 hS.nd rfl (by decide))) (fun _ _ _ _ _ => ts_nil) (fun _ _ _ _ _ => (cCall (T.o30) hr gd (ac (iv 0) (ac (i_callB (c_max2 rfl) (by rfl) T.b_max (by decide +kernel) (ac ii (ac (i_op sim_sub (iv 1) ii) a0))) a0))))) a0))))) s_nil) (s_cons (s_if (t_cmp (sim_eq (hu64 hr)) (iv 2) ii (by rfl)) (s_one (s_ret (i_tup (ac is (ac (i_callT c_tupleA (by rfl) T.b_tuple (by decide +kernel) (ac (i_lc (own := [("turn", 6)]) rfl hS.nd (w_range1 (by rfl) T.b_range (ac (i_op sim_add ii (cCall (T.o12) hr gd (ac (iv 0) (ac ii a0)))) a0)) (blk_of (by kernel_rfl)) (fun _ _ _ _ _ => (gb_name 6 hS.nd rfl (by decide))) (fun _ _ _ _ _ => ts_nil) (fun _ _ _ _ _ => (cCall (T.o30) hr gd (ac (iv 0) (ac (i_callB (c_max2 rfl) (by rfl) T.b_max (by decide +kernel) (ac ii (ac (i_op sim_sub (iv 1) ii) a0))) a0))))) a0)) a0))))) s_nil) (s_cons (s_if (t_cmp (sim_eq (hu64 hr)) (iv 2) ii (by rfl)) (s_cons (s_set 7 hS.nd (cCall (T.o25) hr gd (ac (iv 0) (ac ii a0)))) (s_one (s_ret (i_tup (ac is (ac (i_callT c_tupleA (by rfl) T.b_tuple (by decide +kernel) (ac (i_lc (own := [("label", 8)]) rfl hS.nd (w_seq (iv 7)) (blk_of (by kernel_rfl)) (fun _ _ _ _ _ => (gb_name 8 hS.nd rfl (by decide))) (fun _ _ _ _ _ => ts_nil) (fun _ _ _ _ _ => (i_tup (ac (iv 8) (ac (cCall (T.o30) hr gd (ac (iv 0) (ac (i_callB (c_max2 rfl) (by rfl) T.b_max (by decide +kernel) (ac ii (ac (i_op sim_sub (iv 1) ii) a0))) a0))) a0))))) a0)) a0)))))) s_nil) (s_cons (s_if (t_cmp sim_lt (iv 2) ii (by rfl)) (s_one (s_ret (i_tup (ac is (ac (cCall (T.o30) hr gd (ac (iv 0) (ac (i_op sim_sub (iv 1) ii) a0))) (ac (cCall (T.o13) hr gd (ac (iv 0) (ac (i_lst (ac is (ac is (ac is a0)))) a0))) a0)))))) s_nil) (s_cons (s_if (t_cmp sim_lt (iv 2) ii (by rfl)) (s_one (s_ret (i_tup (ac is (ac (cCall (T.o24) hr gd (ac (iv 0) a0)) (ac (cCall (T.o30) hr gd (ac (iv 0) (ac (i_op sim_sub (iv 1) ii) a0))) a0)))))) s_nil) (s_cons (s_if (t_cmp (sim_eq (hu64 hr)) (iv 2) ii (by rfl)) (s_one (s_ret (i_tup (ac is (ac (cCall (T.o30) hr gd (ac (iv 0) (ac (i_op sim_sub (iv 1) ii) a0))) (ac (cCall (T.o29) hr gd (ac (iv 0) (ac (iv 1) a0))) a0)))))) s_nil) (s_cons (s_if (t_cmp (sim_eq (hu64 hr)) (iv 2) ii (by rfl)) (s_one (s_ret (i_tup (ac (cCall (T.o13) hr gd (ac (iv 0) (ac (i_lst (ac is (ac is (ac is a0)))) a0))) (ac (cCall (T.o30) hr gd (ac (iv 0) (ac (i_op sim_sub (iv 1) ii) a0))) a0))))) s_nil) (s_cons (s_if (t_cmp (sim_eq (hu64 hr)) (iv 2) ii (by rfl)) (s_one (s_ret (i_tup (ac is (ac (cCall (T.o30) hr gd (ac (iv 0) (ac (i_op sim_sub (iv 1) ii) a0))) (ac (cCall (T.o30) hr gd (ac (iv 0) (ac (i_op sim_sub (iv 1) ii) a0))) a0)))))) s_nil) (s_cons (s_set 9 hS.nd (cCall (T.o13) hr gd (ac (iv 0) (ac (i_lst (ac is (ac is (ac is (ac is (ac is a0)))))) a0)))) (s_one (s_ret (i_tup (ac is (ac (iv 9) (ac (cCall (T.o30) hr gd (ac (iv 0) (ac (i_op sim_sub (iv 1) ii) a0))) (ac (cCall (T.o30) hr gd (ac (iv 0) (ac (i_op sim_sub (iv 1) ii) a0))) a0)))))))))))))))))))))))
theorem d31 (T : Tab P w K mg base ct n call) (hr : Room n (A.deeper (envOfC "_law_some_term" (defScope st31) s.heap.objs.size f cdv))) (gd : A.guards = some []) (hS : FnScope N31 P31 (defScope st31) := sc31) :
    PSs (bodyX P w K mg base N31 "_law_some_term" (defScope st31) f cdv A outer s H E) (defBody st31) (tS ⟨K, ct⟩ NX (b31 call)) := by
  unfold b31
  exact (s_cons (s_for PassesOwn.never rfl (w_range1 (by rfl) T.b_range (ac ii a0)) (g_name 2 hS.nd ) (s_cons (s_set 3 hS.nd (cCall (T.o30) hr gd (ac (iv 0) (ac (iv 1) a0)))) (s_cons (s_if (t_cmp sim_le (cCall (T.o17) hr gd (ac (iv 3) a0)) ii (by rfl)) (s_one (s_ret (iv 3))) s_nil) (s_one (s_set 1 hS.nd (i_callB (c_max2 rfl) (by rfl) T.b_max (by decide +kernel) (ac ii (ac (i_op sim_sub (iv 1) ii) a0)))))))) (s_one (s_ret (i_tup (ac is (ac (i_tup a0) a0))))))
theorem d32 (T : Tab P w K mg base ct n call) (hr : Room n (A.deeper (envOfC "_law_is_put_right" (defScope st32) s.heap.objs.size f cdv))) (gd : A.guards = some []) (hS : FnScope N32 P32 (defScope st32) := sc32) :
    PSs (bodyX P w K mg base N32 "_law_is_put_right" (defScope st32) f cdv A outer s H E) (defBody st32) (tS ⟨K, ct⟩ NX (b32 call)) := by
  unfold b32
  exact (s_cons (s_par 4 5 rfl hS.nd (by decide) (ac (cCall (T.o10) hr gd (ac (iv 1) (ac (iv 2) (ac (iv 3) a0)))) (ac (cCall (T.o21) hr gd (ac (iv 1) (ac (iv 2) (ac (iv 3) a0)))) a0))) (s_cons (s_if (t_not (t_tru (cCall (T.o15) hr gd (ac (i_lst (ac (iv 4) (ac (cCall (T.o9) hr gd (ac (iv 4) (ac (iv 2) a0))) a0))) (ac (i_lst (ac (iv 5) (ac (iv 3) a0))) a0))))) (s_one (s_ret ib)) s_nil) (s_cons (s_for PassesOwn.never rfl (w_seq (i_slA (cCall (T.o14) hr gd (ac (iv 0) (ac (cCall (T.o19) hr gd (ac (iv 1) a0)) a0))) o_none (o_some ii))) (g_name 6 hS.nd ) (s_one (s_if ((w_and (t_cmp (sim_ne (hu64 hr)) (i_slA (iv 6) o_none (o_some (i_callB c_len (by rfl) T.b_len (by decide +kernel) (ac (iv 2) a0)))) (iv 2) (by rfl)) (w_and1 (t_cmp (sim_ne (hu64 hr)) (i_slA (iv 2) o_none (o_some (i_callB c_len (by rfl) T.b_len (by decide +kernel) (ac (iv 6) a0)))) (iv 6) (by rfl))))).pt (s_one (s_if (t_not (t_tru (cCall (T.o15) hr gd (ac (cCall (T.o9) hr gd (ac (iv 4) (ac (iv 6) a0))) (ac (cCall (T.o20) hr gd (ac (iv 1) (ac (iv 6) a0))) a0))))) (s_one (s_ret ib)) s_nil)) s_nil))) (s_cons (s_setLc 7 (own := [("one", 8)]) rfl hS.nd (sw_true rfl rfl rfl rfl) (w_seq (cCall (T.o19) hr gd (ac (iv 3) a0))) (blk_of (by kernel_rfl)) (fun _ _ _ _ _ => (gb_name 8 hS.nd rfl (by decide))) (fun _ _ _ _ _ => ts_nil) (fun _ _ _ _ _ => (i_op sim_add (iv 2) (iv 8)))) (s_cons (s_setLc 9 (own := [("one", 8)]) rfl hS.nd (sw_true rfl rfl rfl rfl) (w_seq (cCall (T.o19) hr gd (ac (iv 1) a0))) (blk_of (by kernel_rfl)) (fun _ _ _ _ _ => (gb_name 8 hS.nd rfl (by decide))) (fun _ _ _ _ _ => (ts_one (t_cmp (sim_ne (hu64 hr)) (i_slA (iv 8) o_none (o_some (i_callB c_len (by rfl) T.b_len (by decide +kernel) (ac (iv 2) a0)))) (iv 2) (by rfl)))) (fun _ _ _ _ _ => (iv 8))) (s_one (s_ret (cCall (T.o15) hr gd (ac (cCall (T.o7) hr gd (ac (iv 4) a0)) (ac (i_callT c_tupleA (by rfl) T.b_tuple (by decide +kernel) (ac (i_callB (c_sortedA (hu64 hr)) (by rfl) T.b_sorted (by decide +kernel) (ac (i_op sim_add (iv 9) (iv 7)) a0)) a0)) a0))))))))))
theorem d33 (T : Tab P w K mg base ct n call) (hr : Room n (A.deeper (envOfC "_law_is_plain" (defScope st33) s.heap.objs.size f cdv))) (gd : A.guards = some []) (hS : FnScope N33 P33 (defScope st33) := sc33) :
    PSs (bodyX P w K mg base N33 "_law_is_plain" (defScope st33) f cdv A outer s H E) (defBody st33) (tS ⟨K, ct⟩ NX (b33 call)) := by
  unfold b33
  exact (s_one (s_ret (i_or (i_cmp (sim_eq (hu64 hr)) (iv 1) (i_tup a0) (by rfl)) (i_or (i_cmp (sim_ne (hu64 hr)) (i_ix (cCall (T.o20) hr gd (ac (iv 0) (ac (i_slA (iv 1) o_none (o_some (i_neg ii))) a0))) ii) is (by rfl)) (i_one (i_cmp (sim_eq (hu64 hr)) (i_ix (iv 1) (i_neg ii)) (i_callB c_len (by rfl) T.b_len (by decide +kernel) (ac (i_ix (cCall (T.o20) hr gd (ac (iv 0) (ac (i_slA (iv 1) o_none (o_some (i_neg ii))) a0))) ii) a0)) (by rfl)))))))
theorem d34 (T : Tab P w K mg base ct n call) (hr : Room n (A.deeper (envOfC "law" (defScope st34) s.heap.objs.size f cdv))) (gd : A.guards = some []) (hS : FnScope N34 P34 (defScope st34) := sc34) :
    PSs (bodyX P w K mg base N34 "law" (defScope st34) f cdv A outer s H E) (defBody st34) (tS ⟨K, ct⟩ NX (b34 call)) := by
  unfold b34
  exact (s_cons (s_set 1 hS.nd (cCallL (T.o11) hr gd (ac (iv 0) a0))) (s_cons (s_for PassesOwn.never rfl (w_range1 (by rfl) T.b_range (ac ii a0)) (g_name 2 hS.nd ) (s_cons (s_par 3 4 rfl hS.nd (by decide) (ac (cCall (T.o31) hr gd (ac (iv 1) (ac (cCall (T.o13) hr gd (ac (iv 1) (ac (i_lst (ac ii (ac ii (ac ii a0)))) a0))) a0))) (ac (cCall (T.o31) hr gd (ac (iv 1) (ac ii a0))) a0))) (s_cons (s_par 5 6 rfl hS.nd (by decide) (ac (i_callB (c_repr gd (hu65 hr)) (by rfl) T.b_repr (by decide +kernel) (ac (i_lst (ac (iv 3) (ac (iv 4) a0))) a0)) (ac (cCall (T.o19) hr gd (ac (iv 3) a0)) a0))) (s_cons (s_if (t_not (t_tru (cCall (T.o15) hr gd (ac (i_lst (ac (cCall (T.o7) hr gd (ac (iv 3) a0)) (ac (cCall (T.o8) hr gd (ac (iv 3) a0)) a0))) (ac (i_lst (ac (i_callT c_tupleA (by rfl) T.b_tuple (by decide +kernel) (ac (iv 6) a0)) (ac (i_callB c_len (by rfl) T.b_len (by decide +kernel) (ac (iv 6) a0)) a0))) a0))))) (s_one (s_ret ib)) s_nil) (s_cons (s_for PassesOwn.never rfl (w_seq (i_slA (cCall (T.o14) hr gd (ac (iv 1) (ac (iv 6) a0))) o_none (o_some ii))) (g_name 7 hS.nd ) (s_cons (s_set 8 hS.nd (cCall (T.o20) hr gd (ac (iv 3) (ac (iv 7) a0)))) (s_cons (s_set 9 hS.nd (i_callT c_tupleA (by rfl) T.b_tuple (by decide +kernel) (ac (cCall (T.o16) hr gd (ac (iv 8) a0)) a0))) (s_cons (s_if (t_not (t_tru (cCall (T.o15) hr gd (ac (i_lst (ac (cCall (T.o9) hr gd (ac (iv 3) (ac (iv 7) a0))) (ac (cCall (T.o5) hr gd (ac (iv 8) a0)) (ac (cCall (T.o6) hr gd (ac (iv 8) (ac (iv 9) a0))) a0)))) (ac (i_lst (ac (iv 8) (ac (iv 9) (ac (iv 8) a0)))) a0))))) (s_one (s_ret ib)) s_nil) (s_cons (s_set 10 hS.nd (i_ife (t_cmp (sim_ne (hu64 hr)) (i_ix (iv 8) ii) is (by rfl)) (i_revB (iv 9)) (i_op sim_add (i_slA (iv 9) o_none (o_some (i_neg ii))) (i_tup (ac (iv 4) a0))))) (s_cons (s_if (t_not (t_tru (cCall (T.o15) hr gd (ac (cCall (T.o6) hr gd (ac (iv 8) (ac (iv 10) a0))) (ac (cCall (T.o18) hr gd (ac (iv 8) (ac (i_callT c_list (by rfl) T.b_list (by decide +kernel) (ac (iv 10) a0)) a0))) a0))))) (s_one (s_ret ib)) s_nil) (s_cons (s_set 11 hS.nd (i_ife (t_tru (cCall (T.o33) hr gd (ac (iv 3) (ac (iv 7) a0)))) (iv 4) (i_tup (ac is (ac is (ac (iv 4) a0)))))) (s_one (s_if (t_not (t_tru (cCall (T.o32) hr gd (ac (iv 1) (ac (iv 3) (ac (iv 7) (ac (iv 11) a0))))))) (s_one (s_ret ib)) s_nil))))))))) (s_one (s_if (t_cmp (sim_ne (hu64 hr)) (i_callB (c_repr gd (hu65 hr)) (by rfl) T.b_repr (by decide +kernel) (ac (i_lst (ac (iv 3) (ac (iv 4) a0))) a0)) (iv 5) (by rfl)) (s_one (s_ret ib)) s_nil))))))) (s_one (s_ret ib))))
end
/-! all of them -/
structure Facts (P : Program) (w : World) (K : PySem.W.Frag) (mg : Str → Option Value) (ct : Nat → Option Addr) : Prop where
  a0 : DefAt K mg "standing" st0
  a1 : DefAt K mg "refilled" st1
  a2 : DefAt K mg "inner" st2
  a3 : DefAt K mg "with_inner" st3
  a4 : DefAt K mg "every" st4
  a5 : DefAt K mg "parts_of" st5
  a6 : DefAt K mg "with_parts" st6
  a7 : DefAt K mg "places_of" st7
  a8 : DefAt K mg "size_of" st8
  a9 : DefAt K mg "part_at" st9
  a10 : DefAt K mg "with_part" st10
  a11 : DefAt K mg "_law_bag" st11
  a12 : DefAt K mg "_law_take" st12
  a13 : DefAt K mg "_law_some" st13
  a14 : DefAt K mg "_law_mixed" st14
  a15 : DefAt K mg "_law_alike" st15
  a16 : DefAt K mg "_law_parts" st16
  a17 : DefAt K mg "_law_size" st17
  a18 : DefAt K mg "_law_with_parts" st18
  a19 : DefAt K mg "_law_places" st19
  a20 : DefAt K mg "_law_at" st20
  a21 : DefAt K mg "_law_put_at" st21
  a22 : DefAt K mg "_law_any_name" st22
  a23 : DefAt K mg "_law_any_small" st23
  a24 : DefAt K mg "_law_any_maker" st24
  a25 : DefAt K mg "_law_any_labels" st25
  a26 : DefAt K mg "_law_any_number" st26
  a27 : DefAt K mg "_law_any_pattern" st27
  a28 : DefAt K mg "_law_any_fn" st28
  a29 : DefAt K mg "_law_any_rows" st29
  a30 : DefAt K mg "_law_any_term" st30
  a31 : DefAt K mg "_law_some_term" st31
  a32 : DefAt K mg "_law_is_put_right" st32
  a33 : DefAt K mg "_law_is_plain" st33
  a34 : DefAt K mg "law" st34
  c_PAIRED : KCon K mg "PAIRED" k_PAIRED
  c_SHAPES : KDic P w K mg "SHAPES" k_SHAPES
  b_abs : mg "abs" = none
  b_enumerate : mg "enumerate" = none
  b_int : mg "int" = none
  b_len : mg "len" = none
  b_list : mg "list" = none
  b_max : mg "max" = none
  b_range : mg "range" = none
  b_repr : mg "repr" = none
  b_sorted : mg "sorted" = none
  b_sum : mg "sum" = none
  b_tuple : mg "tuple" = none
  b_zip : mg "zip" = none
theorem bn0 : Bnd "standing" st0 P0 := fun _ _ _ _ _ _ us hl => match us, hl with | [_, _], _ => rfl
theorem bn1 : Bnd "refilled" st1 P1 := fun _ _ _ _ _ _ us hl => match us, hl with | [_, _, _], _ => rfl
theorem bn2 : Bnd "inner" st2 P2 := fun _ _ _ _ _ _ us hl => match us, hl with | [_, _], _ => rfl
theorem bn3 : Bnd "with_inner" st3 P3 := fun _ _ _ _ _ _ us hl => match us, hl with | [_, _, _], _ => rfl
theorem bn4 : Bnd "every" st4 P4 := fun _ _ _ _ _ _ us hl => match us, hl with | [_, _], _ => rfl
theorem bn5 : Bnd "parts_of" st5 P5 := fun _ _ _ _ _ _ us hl => match us, hl with | [_], _ => rfl
theorem bn6 : Bnd "with_parts" st6 P6 := fun _ _ _ _ _ _ us hl => match us, hl with | [_, _], _ => rfl
theorem bn7 : Bnd "places_of" st7 P7 := fun _ _ _ _ _ _ us hl => match us, hl with | [_], _ => rfl
theorem bn8 : Bnd "size_of" st8 P8 := fun _ _ _ _ _ _ us hl => match us, hl with | [_], _ => rfl
theorem bn9 : Bnd "part_at" st9 P9 := fun _ _ _ _ _ _ us hl => match us, hl with | [_, _], _ => rfl
theorem bn10 : Bnd "with_part" st10 P10 := fun _ _ _ _ _ _ us hl => match us, hl with | [_, _, _], _ => rfl
theorem bn11 : Bnd "_law_bag" st11 P11 := fun _ _ _ _ _ _ us hl => match us, hl with | [_], _ => rfl
theorem bn12 : Bnd "_law_take" st12 P12 := fun _ _ _ _ _ _ us hl => match us, hl with | [_, _], _ => rfl
theorem bn13 : Bnd "_law_some" st13 P13 := fun _ _ _ _ _ _ us hl => match us, hl with | [_, _], _ => rfl
theorem bn14 : Bnd "_law_mixed" st14 P14 := fun _ _ _ _ _ _ us hl => match us, hl with | [_, _], _ => rfl
theorem bn15 : Bnd "_law_alike" st15 P15 := fun _ _ _ _ _ _ us hl => match us, hl with | [_, _], _ => rfl
theorem bn16 : Bnd "_law_parts" st16 P16 := fun _ _ _ _ _ _ us hl => match us, hl with | [_], _ => rfl
theorem bn17 : Bnd "_law_size" st17 P17 := fun _ _ _ _ _ _ us hl => match us, hl with | [_], _ => rfl
theorem bn18 : Bnd "_law_with_parts" st18 P18 := fun _ _ _ _ _ _ us hl => match us, hl with | [_, _], _ => rfl
theorem bn19 : Bnd "_law_places" st19 P19 := fun _ _ _ _ _ _ us hl => match us, hl with | [_], _ => rfl
theorem bn20 : Bnd "_law_at" st20 P20 := fun _ _ _ _ _ _ us hl => match us, hl with | [_, _], _ => rfl
theorem bn21 : Bnd "_law_put_at" st21 P21 := fun _ _ _ _ _ _ us hl => match us, hl with | [_, _, _], _ => rfl
theorem bn22 : Bnd "_law_any_name" st22 P22 := fun _ _ _ _ _ _ us hl => match us, hl with | [_], _ => rfl
theorem bn23 : Bnd "_law_any_small" st23 P23 := fun _ _ _ _ _ _ us hl => match us, hl with | [_], _ => rfl
theorem bn24 : Bnd "_law_any_maker" st24 P24 := fun _ _ _ _ _ _ us hl => match us, hl with | [_], _ => rfl
theorem bn25 : Bnd "_law_any_labels" st25 P25 := fun _ _ _ _ _ _ us hl => match us, hl with | [_, _], _ => rfl
theorem bn26 : Bnd "_law_any_number" st26 P26 := fun _ _ _ _ _ _ us hl => match us, hl with | [_], _ => rfl
theorem bn27 : Bnd "_law_any_pattern" st27 P27 := fun _ _ _ _ _ _ us hl => match us, hl with | [_, _, _], _ => rfl
theorem bn28 : Bnd "_law_any_fn" st28 P28 := fun _ _ _ _ _ _ us hl => match us, hl with | [_, _], _ => rfl
theorem bn29 : Bnd "_law_any_rows" st29 P29 := fun _ _ _ _ _ _ us hl => match us, hl with | [_, _], _ => rfl
theorem bn30 : Bnd "_law_any_term" st30 P30 := fun _ _ _ _ _ _ us hl => match us, hl with | [_, _], _ => rfl
theorem bn31 : Bnd "_law_some_term" st31 P31 := fun _ _ _ _ _ _ us hl => match us, hl with | [_, _], _ => rfl
theorem bn32 : Bnd "_law_is_put_right" st32 P32 := fun _ _ _ _ _ _ us hl => match us, hl with | [_, _, _, _], _ => rfl
theorem bn33 : Bnd "_law_is_plain" st33 P33 := fun _ _ _ _ _ _ us hl => match us, hl with | [_, _], _ => rfl
theorem bn34 : Bnd "law" st34 P34 := fun _ _ _ _ _ _ us hl => match us, hl with | [_], _ => rfl
theorem tab_all {P : Program} {w : World} {K : PySem.W.Frag} {mg : Str → Option Value} {base : Heap} {ct : Nat → Option Addr} (F : Facts P w K mg ct) : ∀ n, Tab P w K mg base ct n (callN n)
  | 0 => ⟨callee_zero F.a0 bn0 fun _ _ => rfl, callee_zero F.a1 bn1 fun _ _ => rfl, callee_zero F.a2 bn2 fun _ _ => rfl, callee_zero F.a3 bn3 fun _ _ => rfl, callee_zero F.a4 bn4 fun _ _ => rfl, callee_zero F.a5 bn5 fun _ _ => rfl, callee_zero F.a6 bn6 fun _ _ => rfl, callee_zero F.a7 bn7 fun _ _ => rfl, callee_zero F.a8 bn8 fun _ _ => rfl, callee_zero F.a9 bn9 fun _ _ => rfl, callee_zero F.a10 bn10 fun _ _ => rfl, callee_zero F.a11 bn11 fun _ _ => rfl, callee_zero F.a12 bn12 fun _ _ => rfl, callee_zero F.a13 bn13 fun _ _ => rfl, callee_zero F.a14 bn14 fun _ _ => rfl, callee_zero F.a15 bn15 fun _ _ => rfl, callee_zero F.a16 bn16 fun _ _ => rfl, callee_zero F.a17 bn17 fun _ _ => rfl, callee_zero F.a18 bn18 fun _ _ => rfl, callee_zero F.a19 bn19 fun _ _ => rfl, callee_zero F.a20 bn20 fun _ _ => rfl, callee_zero F.a21 bn21 fun _ _ => rfl, callee_zero F.a22 bn22 fun _ _ => rfl, callee_zero F.a23 bn23 fun _ _ => rfl, callee_zero F.a24 bn24 fun _ _ => rfl, callee_zero F.a25 bn25 fun _ _ => rfl, callee_zero F.a26 bn26 fun _ _ => rfl, callee_zero F.a27 bn27 fun _ _ => rfl, callee_zero F.a28 bn28 fun _ _ => rfl, callee_zero F.a29 bn29 fun _ _ => rfl, callee_zero F.a30 bn30 fun _ _ => rfl, callee_zero F.a31 bn31 fun _ _ => rfl, callee_zero F.a32 bn32 fun _ _ => rfl, callee_zero F.a33 bn33 fun _ _ => rfl, callee_zero F.a34 bn34 fun _ _ => rfl, F.c_PAIRED, F.c_SHAPES, F.b_abs, F.b_enumerate, F.b_int, F.b_len, F.b_list, F.b_max, F.b_range, F.b_repr, F.b_sorted, F.b_sum, F.b_tuple, F.b_zip⟩
  | n + 1 =>
    have T : Tab P w K mg base ct n (callN n) := tab_all F n
    ⟨callee_succ F.a0 bn0 sc0 (fun _ _ => rfl) fun _ _ _ _ _ _ _ r gd => d0 T r gd, callee_succ F.a1 bn1 sc1 (fun _ _ => rfl) fun _ _ _ _ _ _ _ r gd => d1 T r gd, callee_succ F.a2 bn2 sc2 (fun _ _ => rfl) fun _ _ _ _ _ _ _ r gd => d2 T r gd, callee_succ F.a3 bn3 sc3 (fun _ _ => rfl) fun _ _ _ _ _ _ _ r gd => d3 T r gd, callee_succ F.a4 bn4 sc4 (fun _ _ => rfl) fun _ _ _ _ _ _ _ r gd => d4 T r gd, callee_succ F.a5 bn5 sc5 (fun _ _ => rfl) fun _ _ _ _ _ _ _ r gd => d5 T r gd, callee_succ F.a6 bn6 sc6 (fun _ _ => rfl) fun _ _ _ _ _ _ _ r gd => d6 T r gd, callee_succ F.a7 bn7 sc7 (fun _ _ => rfl) fun _ _ _ _ _ _ _ r gd => d7 T r gd, callee_succ F.a8 bn8 sc8 (fun _ _ => rfl) fun _ _ _ _ _ _ _ r gd => d8 T r gd, callee_succ F.a9 bn9 sc9 (fun _ _ => rfl) fun _ _ _ _ _ _ _ r gd => d9 T r gd, callee_succ F.a10 bn10 sc10 (fun _ _ => rfl) fun _ _ _ _ _ _ _ r gd => d10 T r gd, callee_succ F.a11 bn11 sc11 (fun _ _ => rfl) fun _ _ _ _ _ _ _ r gd => d11 T r gd, callee_succ F.a12 bn12 sc12 (fun _ _ => rfl) fun _ _ _ _ _ _ _ r gd => d12 T r gd, callee_succ F.a13 bn13 sc13 (fun _ _ => rfl) fun _ _ _ _ _ _ _ r gd => d13 T r gd, callee_succ F.a14 bn14 sc14 (fun _ _ => rfl) fun _ _ _ _ _ _ _ r gd => d14 T r gd, callee_succ F.a15 bn15 sc15 (fun _ _ => rfl) fun _ _ _ _ _ _ _ r gd => d15 T r gd, callee_succ F.a16 bn16 sc16 (fun _ _ => rfl) fun _ _ _ _ _ _ _ r gd => d16 T r gd, callee_succ F.a17 bn17 sc17 (fun _ _ => rfl) fun _ _ _ _ _ _ _ r gd => d17 T r gd, callee_succ F.a18 bn18 sc18 (fun _ _ => rfl) fun _ _ _ _ _ _ _ r gd => d18 T r gd, callee_succ F.a19 bn19 sc19 (fun _ _ => rfl) fun _ _ _ _ _ _ _ r gd => d19 T r gd, callee_succ F.a20 bn20 sc20 (fun _ _ => rfl) fun _ _ _ _ _ _ _ r gd => d20 T r gd, callee_succ F.a21 bn21 sc21 (fun _ _ => rfl) fun _ _ _ _ _ _ _ r gd => d21 T r gd, callee_succ F.a22 bn22 sc22 (fun _ _ => rfl) fun _ _ _ _ _ _ _ r gd => d22 T r gd, callee_succ F.a23 bn23 sc23 (fun _ _ => rfl) fun _ _ _ _ _ _ _ r gd => d23 T r gd, callee_succ F.a24 bn24 sc24 (fun _ _ => rfl) fun _ _ _ _ _ _ _ r gd => d24 T r gd, callee_succ F.a25 bn25 sc25 (fun _ _ => rfl) fun _ _ _ _ _ _ _ r gd => d25 T r gd, callee_succ F.a26 bn26 sc26 (fun _ _ => rfl) fun _ _ _ _ _ _ _ r gd => d26 T r gd, callee_succ F.a27 bn27 sc27 (fun _ _ => rfl) fun _ _ _ _ _ _ _ r gd => d27 T r gd, callee_succ F.a28 bn28 sc28 (fun _ _ => rfl) fun _ _ _ _ _ _ _ r gd => d28 T r gd, callee_succ F.a29 bn29 sc29 (fun _ _ => rfl) fun _ _ _ _ _ _ _ r gd => d29 T r gd, callee_succ F.a30 bn30 sc30 (fun _ _ => rfl) fun _ _ _ _ _ _ _ r gd => d30 T r gd, callee_succ F.a31 bn31 sc31 (fun _ _ => rfl) fun _ _ _ _ _ _ _ r gd => d31 T r gd, callee_succ F.a32 bn32 sc32 (fun _ _ => rfl) fun _ _ _ _ _ _ _ r gd => d32 T r gd, callee_succ F.a33 bn33 sc33 (fun _ _ => rfl) fun _ _ _ _ _ _ _ r gd => d33 T r gd, callee_succ F.a34 bn34 sc34 (fun _ _ => rfl) fun _ _ _ _ _ _ _ r gd => d34 T r gd, F.c_PAIRED, F.c_SHAPES, F.b_abs, F.b_enumerate, F.b_int, F.b_len, F.b_list, F.b_max, F.b_range, F.b_repr, F.b_sorted, F.b_sum, F.b_tuple, F.b_zip⟩
end VI
set_option Elab.async false
set_option linter.all false
set_option maxRecDepth 100000
namespace VI
open PySem PySem.Spec PyProof.Rows L2
namespace P4

/-! terms: a head and its parts -/
inductive Hd where
  | leaf (w : Str) (d : PyData)
  | fn (x : PyData)
  | lt (x : PyData)
  | rc (xs : List PyData)
  | tup
  | rd (xs : List PyData)
  | fd (x : PyData)
  | mk0 (x : PyData)
  | mk1 (x : PyData)
  | mt (xs : List PyData)
  | op (x : PyData)
  | fl (w : Str)
def pairs (xs ks : List PyData) : List PyData := List.zipWith (fun x k => PyData.tuple [x, k]) xs ks
def encN : Hd → List PyData → PyData
  | .leaf w d, _ => .tuple [.str w, d]
  | .fn x, ks => .tuple [.str "fn", x, ks.getD 0 .none]
  | .lt x, ks => .tuple [.str "let", x, ks.getD 0 .none, ks.getD 1 .none]
  | .rc xs, ks => .tuple [.str "rec", .tuple (pairs xs ks), ks.getD xs.length .none]
  | .tup, ks => .tuple [.str "tuple", .tuple ks]
  | .rd xs, ks => .tuple [.str "record", .tuple (pairs xs ks)]
  | .fd x, ks => .tuple [.str "field", ks.getD 0 .none, x]
  | .mk0 x, _ => .tuple [.str "make", x, .none]
  | .mk1 x, ks => .tuple [.str "make", x, ks.getD 0 .none]
  | .mt xs, ks => .tuple [.str "match", ks.getD 0 .none, .tuple (pairs xs ks.tail)]
  | .op x, ks => .tuple [.str "op", x, ks.getD 0 .none, ks.getD 1 .none]
  | .fl w, ks => .tuple (.str w :: ks)
def fits : Hd → Nat → Prop
  | .leaf w _, n => n = 0 ∧ (w = "name" ∨ w = "num" ∨ w = "truth")
  | .fn _, n => n = 1
  | .lt _, n => n = 2
  | .rc xs, n => n = xs.length + 1
  | .tup, _ => True
  | .rd xs, n => n = xs.length
  | .fd _, n => n = 1
  | .mk0 _, n => n = 0
  | .mk1 _, n => n = 1
  | .mt xs, n => n = xs.length + 1
  | .op _, n => n = 2
  | .fl w, n => (w = "call" ∧ n = 2) ∨ (w = "if" ∧ n = 3) ∨ (w = "put" ∧ n = 2) ∨ ((w = "new" ∨ w = "get" ∨ w = "tell") ∧ n = 1)
/-- .. and not many -/
def Fit (h : Hd) (n : Nat) : Prop := fits h n ∧ n ≤ 4
def isRc : Hd → Bool
  | .rc _ => true
  | _ => false
inductive Tm where
  | node (h : Hd) (ks : List Tm)
mutual
def enc : Tm → PyData
  | .node h ks => encN h (encs ks)
def encs : List Tm → List PyData
  | [] => []
  | k :: ks => enc k :: encs ks
end
mutual
/-- each node has as many parts as its head wants -/
def Wf : Tm → Prop
  | .node h ks => Fit h ks.length ∧ Wfs ks
def Wfs : List Tm → Prop
  | [] => True
  | k :: ks => Wf k ∧ Wfs ks
end
mutual
def size : Tm → Nat
  | .node _ ks => 1 + sizes ks
def sizes : List Tm → Nat
  | [] => 0
  | k :: ks => size k + sizes ks
end
mutual
def ht : Tm → Nat
  | .node _ ks => 1 + hts ks
def hts : List Tm → Nat
  | [] => 0
  | k :: ks => max (ht k) (hts ks)
end
mutual
def places : Tm → List (List Nat)
  | .node _ ks => [] :: placesL 0 ks
def placesL : Nat → List Tm → List (List Nat)
  | _, [] => []
  | i, k :: ks => (places k).map (i :: ·) ++ placesL (i + 1) ks
end
def Tm.kids : Tm → List Tm
  | .node _ ks => ks
def Tm.hd : Tm → Hd
  | .node h _ => h
def at_ : Tm → List Nat → Option Tm
  | t, [] => some t
  | t, i :: p => match t.kids[i]? with
    | some k => at_ k p
    | none => none
def put : Tm → List Nat → Tm → Tm
  | _, [], q => q
  | t, i :: p, q => match t.kids[i]? with
    | some k => .node t.hd (t.kids.set i (put k p q))
    | none => t
theorem encs_map : ∀ ks : List Tm, encs ks = ks.map enc
  | [] => rfl
  | k :: ks => by rw [encs, encs_map ks, List.map_cons]
theorem enc_node (h : Hd) (ks : List Tm) : enc (.node h ks) = encN h (ks.map enc) := by rw [enc, encs_map]
theorem enc_tm (t : Tm) : enc t = encN t.hd (t.kids.map enc) := by
  cases t
  exact enc_node _ _
theorem wfs_mem : ∀ {ks : List Tm}, Wfs ks → ∀ k ∈ ks, Wf k
  | [], _, _, m => by cases m
  | k :: ks, ⟨h, hs⟩, k', m => by
    rcases List.mem_cons.mp m with rfl | m
    · exact h
    · exact wfs_mem hs k' m
theorem wfs_of : ∀ {ks : List Tm}, (∀ k ∈ ks, Wf k) → Wfs ks
  | [], _ => trivial
  | k :: ks, h => ⟨h k (by simp), wfs_of fun k' m => h k' (by simp [m])⟩
theorem wf_iff {t : Tm} : Wf t ↔ Fit t.hd t.kids.length ∧ ∀ k ∈ t.kids, Wf k := by
  cases t with
  | node h ks => exact ⟨fun ⟨a, b⟩ => ⟨a, wfs_mem b⟩, fun ⟨a, b⟩ => ⟨a, wfs_of b⟩⟩
theorem encN_tuple (h : Hd) (ks : List PyData) : ∃ w r, encN h ks = .tuple (.str w :: r) := by
  cases h <;> exact ⟨_, _, rfl⟩
theorem enc_tuple (t : Tm) : ∃ w r, enc t = .tuple (.str w :: r) := by
  rw [enc_tm]
  exact encN_tuple _ _
/-! sizes, heights -/
theorem sizes_mem : ∀ {ks : List Tm} {k : Tm}, k ∈ ks → size k ≤ sizes ks
  | [], _, m => by cases m
  | k :: ks, k', m => by
    rw [sizes]
    rcases List.mem_cons.mp m with rfl | m
    · omega
    · have := sizes_mem m
      omega
theorem hts_mem : ∀ {ks : List Tm} {k : Tm}, k ∈ ks → ht k ≤ hts ks
  | [], _, m => by cases m
  | k :: ks, k', m => by
    rw [hts]
    rcases List.mem_cons.mp m with rfl | m
    · omega
    · have := hts_mem m
      omega
theorem hts_le : ∀ {ks : List Tm} {n : Nat}, (∀ k ∈ ks, ht k ≤ n) → hts ks ≤ n
  | [], n, _ => Nat.zero_le n
  | k :: ks, n, h => by
    rw [hts]
    exact Nat.max_le.mpr ⟨h k (by simp), hts_le fun k' m => h k' (by simp [m])⟩
theorem ht_kid {t k : Tm} (m : k ∈ t.kids) : ht k + 1 ≤ ht t := by
  cases t with
  | node h ks =>
    have := hts_mem m
    rw [ht]
    show ht k + 1 ≤ 1 + hts ks
    have e : ht k ≤ hts ks := this
    omega
theorem size_pos (t : Tm) : 1 ≤ size t := by
  cases t with
  | node h ks => rw [size]; omega
theorem sizes_len : ∀ ks : List Tm, ks.length ≤ sizes ks
  | [] => Nat.zero_le _
  | k :: ks => by
    rw [sizes, List.length_cons]
    have := size_pos k
    have := sizes_len ks
    omega
/-! places -/
theorem placesL_mem : ∀ {ks : List Tm} {i : Nat} {p : List Nat}, p ∈ placesL i ks ↔ ∃ j k q, ks[j]? = some k ∧ q ∈ places k ∧ p = (i + j) :: q
  | [], i, p => by simp [placesL]
  | k :: ks, i, p => by
    rw [placesL, List.mem_append, List.mem_map, placesL_mem]
    constructor
    · rintro (⟨q, m, rfl⟩ | ⟨j, k', q, h1, h2, rfl⟩)
      · exact ⟨0, k, q, rfl, m, rfl⟩
      · exact ⟨j + 1, k', q, h1, h2, by rw [show i + 1 + j = i + (j + 1) by omega]⟩
    · rintro ⟨j, k', q, h1, h2, rfl⟩
      cases j with
      | zero =>
        simp at h1
        subst h1
        exact .inl ⟨q, h2, rfl⟩
      | succ j => exact .inr ⟨j, k', q, by simpa using h1, h2, by rw [show i + 1 + j = i + (j + 1) by omega]⟩
theorem places_mem {t : Tm} {p : List Nat} : p ∈ places t ↔ p = [] ∨ ∃ j k q, t.kids[j]? = some k ∧ q ∈ places k ∧ p = j :: q := by
  cases t with
  | node h ks =>
    rw [places, List.mem_cons, placesL_mem]
    simp only [Nat.zero_add, Tm.kids]
/-- a place is one that leads somewhere -/
theorem mem_at : ∀ (p : List Nat) {t : Tm}, p ∈ places t ↔ ∃ u, at_ t p = some u
  | [], t => ⟨fun _ => ⟨t, rfl⟩, fun _ => places_mem.mpr (.inl rfl)⟩
  | i :: p, t => by
    rw [places_mem]
    constructor
    · rintro (h | ⟨j, k, q, h1, h2, h3⟩)
      · cases h
      · cases h3
        obtain ⟨u, hu⟩ := (mem_at p).mp h2
        exact ⟨u, by rw [at_, h1]; exact hu⟩
    · rintro ⟨u, hu⟩
      rw [at_] at hu
      cases e : t.kids[i]? with
      | none => rw [e] at hu; cases hu
      | some k =>
        rw [e] at hu
        exact .inr ⟨i, k, p, e, (mem_at p).mpr ⟨u, hu⟩, rfl⟩
mutual
theorem places_len : ∀ t : Tm, (places t).length = size t
  | .node h ks => by rw [places, size, List.length_cons, placesL_len ks 0]; omega
theorem placesL_len : ∀ (ks : List Tm) (i : Nat), (placesL i ks).length = sizes ks
  | [], _ => rfl
  | k :: ks, i => by rw [placesL, sizes, List.length_append, List.length_map, places_len k, placesL_len ks (i + 1)]
end
theorem at_append : ∀ (p q : List Nat) (t : Tm), at_ t (p ++ q) = (at_ t p).bind fun u => at_ u q
  | [], q, t => rfl
  | i :: p, q, t => by
    rw [List.cons_append, at_, at_]
    cases t.kids[i]? with
    | none => rfl
    | some k => exact at_append p q k
theorem at_wf : ∀ (p : List Nat) {t u : Tm}, Wf t → at_ t p = some u → Wf u
  | [], t, u, h, e => by cases e; exact h
  | i :: p, t, u, h, e => by
    rw [at_] at e
    cases q : t.kids[i]? with
    | none => rw [q] at e; cases e
    | some k =>
      rw [q] at e
      exact at_wf p ((wf_iff.mp h).2 k (List.mem_of_getElem? q)) e
theorem at_ht : ∀ (p : List Nat) {t u : Tm}, at_ t p = some u → ht u ≤ ht t
  | [], t, u, e => by cases e; exact Nat.le_refl _
  | i :: p, t, u, e => by
    rw [at_] at e
    cases q : t.kids[i]? with
    | none => rw [q] at e; cases e
    | some k =>
      rw [q] at e
      have := at_ht p e
      have := ht_kid (List.mem_of_getElem? q)
      omega
theorem at_len : ∀ (p : List Nat) {t u : Tm}, at_ t p = some u → p.length + ht u ≤ ht t
  | [], t, u, e => by cases e; simp
  | i :: p, t, u, e => by
    rw [at_] at e
    cases q : t.kids[i]? with
    | none => rw [q] at e; cases e
    | some k =>
      rw [q] at e
      have := at_len p e
      have := ht_kid (List.mem_of_getElem? q)
      rw [List.length_cons]
      omega
theorem kid_size {t k : Tm} (m : k ∈ t.kids) : size k + 1 ≤ size t := by
  cases t with
  | node h ks =>
    have := sizes_mem m
    rw [size]
    have e : size k ≤ sizes ks := this
    omega
theorem at_size : ∀ (p : List Nat) {t u : Tm}, at_ t p = some u → size u ≤ size t
  | [], t, u, e => by cases e; exact Nat.le_refl _
  | i :: p, t, u, e => by
    rw [at_] at e
    cases q : t.kids[i]? with
    | none => rw [q] at e; cases e
    | some k =>
      rw [q] at e
      have := at_size p e
      have := kid_size (List.mem_of_getElem? q)
      omega
/-! putting -/
theorem at_cons {t k : Tm} {i : Nat} {p : List Nat} (h : t.kids[i]? = some k) : at_ t (i :: p) = at_ k p := by rw [at_, h]
theorem put_cons {t k q : Tm} {i : Nat} {p : List Nat} (h : t.kids[i]? = some k) : put t (i :: p) q = .node t.hd (t.kids.set i (put k p q)) := by rw [put, h]
theorem put_at : ∀ (p : List Nat) {t u q : Tm}, at_ t p = some u → at_ (put t p q) p = some q
  | [], t, u, q, e => rfl
  | i :: p, t, u, q, e => by
    rw [at_] at e
    cases h : t.kids[i]? with
    | none => rw [h] at e; cases e
    | some k =>
      rw [h] at e
      have hi := (List.getElem?_eq_some_iff.mp h).1
      rw [put_cons h, at_cons (k := put k p q) (List.getElem?_set_self hi)]
      exact put_at p e
theorem put_other : ∀ (p o : List Nat) {t u q : Tm}, at_ t p = some u → o.take p.length ≠ p → p.take o.length ≠ o → at_ (put t p q) o = at_ t o
  | [], o, t, u, q, e, h1, h2 => absurd rfl h1
  | i :: p, [], t, u, q, e, h1, h2 => absurd rfl h2
  | i :: p, j :: o, t, u, q, e, h1, h2 => by
    rw [at_] at e
    cases h : t.kids[i]? with
    | none => rw [h] at e; cases e
    | some k =>
      rw [h] at e
      have hi := (List.getElem?_eq_some_iff.mp h).1
      rw [put_cons h]
      by_cases hij : j = i
      · subst hij
        rw [at_cons (k := put k p q) (List.getElem?_set_self hi), at_cons h]
        refine put_other p o e (fun z => h1 ?_) (fun z => h2 ?_)
        · rw [List.length_cons, List.take_succ_cons, z]
        · rw [List.length_cons, List.take_succ_cons, z]
      · rw [at_, at_]
        show (match (t.kids.set i (put k p q))[j]? with | some k => at_ k o | none => none) = _
        rw [List.getElem?_set_ne (Ne.symm hij)]
theorem put_wf : ∀ (p : List Nat) {t u q : Tm}, Wf t → Wf q → at_ t p = some u → Wf (put t p q)
  | [], t, u, q, _, h, _ => h
  | i :: p, t, u, q, ht_, hq, e => by
    rw [at_] at e
    cases h : t.kids[i]? with
    | none => rw [h] at e; cases e
    | some k =>
      rw [h] at e
      have w := wf_iff.mp ht_
      rw [put_cons h]
      refine wf_iff.mpr ⟨?_, fun k' m => ?_⟩
      · show Fit t.hd (t.kids.set i _).length
        rw [List.length_set]
        exact w.1
      · rcases List.mem_or_eq_of_mem_set m with m | rfl
        · exact w.2 k' m
        · exact put_wf p (w.2 k (List.mem_of_getElem? h)) hq e
end P4
end VI
set_option Elab.async false
set_option linter.all false
set_option maxRecDepth 100000
namespace VI
open PySem PySem.Spec PyProof.Rows L2
namespace P4

def natI (p : List Nat) : List Int := p.map fun (n : Nat) => ((n : Nat) : Int)
theorem natI_cons (i : Nat) (p : List Nat) : natI (i :: p) = (i : Int) :: natI p := rfl
theorem natI_inj : ∀ {p q : List Nat}, natI p = natI q → p = q
  | [], [], _ => rfl
  | [], _ :: _, h => by cases h
  | _ :: _, [], h => by cases h
  | a :: p, b :: q, h => by
    rw [natI_cons, natI_cons] at h
    injection h with h1 h2
    rw [natI_inj h2, Int.ofNat.inj h1]
def ltP (a b : List Nat) : Prop := HT.lexLt (natI a) (natI b) = true
theorem ltP_nil (i : Nat) (p : List Nat) : ltP [] (i :: p) := HT.lexLt_nil_cons _ _
theorem ltP_same {i : Nat} {p q : List Nat} (h : ltP p q) : ltP (i :: p) (i :: q) := by
  unfold ltP
  rw [natI_cons, natI_cons, HT.lexLt_cons, if_pos rfl]
  exact h
theorem ltP_head {i j : Nat} {p q : List Nat} (h : i < j) : ltP (i :: p) (j :: q) := by
  unfold ltP
  rw [natI_cons, natI_cons, HT.lexLt_cons, if_neg (by omega)]
  exact decide_eq_true (by omega)
theorem placesL_head {ks : List Tm} {i : Nat} {p : List Nat} (h : p ∈ placesL i ks) : ∃ j q, p = j :: q ∧ i ≤ j := by
  obtain ⟨j, k, q, _, _, rfl⟩ := placesL_mem.mp h
  exact ⟨i + j, q, rfl, by omega⟩
mutual
theorem places_sorted : ∀ t : Tm, (places t).Pairwise ltP
  | .node h ks => by
    rw [places]
    refine List.pairwise_cons.mpr ⟨fun p m => ?_, placesL_sorted ks 0⟩
    obtain ⟨j, q, rfl, _⟩ := placesL_head m
    exact ltP_nil j q
theorem placesL_sorted : ∀ (ks : List Tm) (i : Nat), (placesL i ks).Pairwise ltP
  | [], i => List.Pairwise.nil
  | k :: ks, i => by
    rw [placesL]
    refine List.pairwise_append.mpr ⟨List.pairwise_map.mpr ((places_sorted k).imp fun h => ltP_same h), placesL_sorted ks (i + 1), fun p m q m2 => ?_⟩
    obtain ⟨p', _, rfl⟩ := List.mem_map.mp m
    obtain ⟨j, q', rfl, hj⟩ := placesL_head m2
    exact ltP_head (by omega)
end
def keptB (p o : List Nat) : Bool := !decide (o.take p.length = p)
def kept (t : Tm) (p : List Nat) : List (List Nat) := (places t).filter (keptB p)
def below (q : Tm) (p : List Nat) : List (List Nat) := (places q).map (p ++ ·)
theorem keptB_cons (i : Nat) (p o : List Nat) : keptB (i :: p) (i :: o) = keptB p o := by
  unfold keptB
  rw [List.length_cons, List.take_succ_cons]
  simp
theorem keptB_ne {i j : Nat} {p o : List Nat} (h : j ≠ i) : keptB (i :: p) (j :: o) = true := by
  unfold keptB
  rw [List.length_cons, List.take_succ_cons]
  simp [h]
theorem filter_ne {ks : List Tm} {b i : Nat} {p : List Nat} (h : i < b) : (placesL b ks).filter (keptB (i :: p)) = placesL b ks := by
  refine List.filter_eq_self.mpr fun o m => ?_
  obtain ⟨j, q, rfl, hj⟩ := placesL_head m
  exact keptB_ne (by omega)
theorem filter_block {k : Tm} {i : Nat} {p : List Nat} : ((places k).map (i :: ·)).filter (keptB (i :: p)) = (kept k p).map (i :: ·) := by
  unfold kept
  rw [List.filter_map]
  congr 1
  exact List.filter_congr fun o _ => keptB_cons i p o
theorem block_ne {k : Tm} {i j : Nat} {p : List Nat} (h : j ≠ i) : ((places k).map (j :: ·)).filter (keptB (i :: p)) = (places k).map (j :: ·) := by
  refine List.filter_eq_self.mpr fun o m => ?_
  obtain ⟨q, _, rfl⟩ := List.mem_map.mp m
  exact keptB_ne h
theorem placesL_put {k k' q : Tm} {p : List Nat} (ih : (places k').Perm (kept k p ++ below q p)) : ∀ {ks : List Tm} {i b : Nat}, ks[i]? = some k →
    (placesL b (ks.set i k')).Perm ((placesL b ks).filter (keptB ((b + i) :: p)) ++ (below q p).map ((b + i) :: ·))
  | [], i, b, h => by cases h
  | k0 :: ks, 0, b, h => by
    have e : k0 = k := by simpa using h
    subst e
    rw [List.set_cons_zero, placesL, placesL, List.filter_append, show b + 0 = b from rfl, filter_block, filter_ne (by omega)]
    have h1 := ih.map (b :: ·)
    rw [List.map_append] at h1
    refine (h1.append_right _).trans ?_
    rw [List.append_assoc, List.append_assoc]
    exact List.Perm.append_left _ List.perm_append_comm
  | k0 :: ks, i + 1, b, h => by
    have r := placesL_put ih (ks := ks) (i := i) (b := b + 1) (by simpa using h)
    rw [show b + 1 + i = b + (i + 1) by omega] at r
    rw [List.set_cons_succ, placesL, placesL, List.filter_append, block_ne (by omega), List.append_assoc]
    exact List.Perm.append_left _ r
theorem places_put : ∀ (p : List Nat) {t u q : Tm}, at_ t p = some u → (places (put t p q)).Perm (kept t p ++ below q p)
  | [], t, u, q, _ => by
    have e : kept t [] = [] := List.filter_eq_nil_iff.mpr fun o _ => by simp [keptB]
    rw [e]
    show (places q).Perm ((places q).map ([] ++ ·))
    simp
  | i :: p, t, u, q, e => by
    rw [at_] at e
    cases h : t.kids[i]? with
    | none => rw [h] at e; cases e
    | some k =>
      rw [h] at e
      have ih := places_put p (q := q) e
      have r := placesL_put ih (b := 0) h
      rw [Nat.zero_add] at r
      rw [put_cons h, places]
      cases t with
      | node hd ks =>
        have ek : kept (.node hd ks) (i :: p) = [] :: (placesL 0 ks).filter (keptB (i :: p)) := by
          unfold kept
          rw [places, List.filter_cons_of_pos (by simp [keptB])]
        have eb : below q (i :: p) = (below q p).map (i :: ·) := by
          unfold below
          rw [List.map_map]
          rfl
        rw [ek, eb, List.cons_append]
        exact List.Perm.cons _ r
/-- what is told and what the law sorts -/
theorem places_srt {p : List Nat} {t u q : Tm} (e : at_ t p = some u) : (places (put t p q)).map natI = srtT ((kept t p ++ below q p).map natI) := by
  refine srtT_eq ((places_put p e).map natI) (List.pairwise_map.mpr ((places_sorted _).imp fun {a b} h => ?_))
  unfold leT
  rw [NtL.lex_asym _ _ h]
  rfl
/-- the first one is empty -/
theorem kept_first {p : List Nat} {t u q : Tm} : ∃ r, kept t p ++ below q p = [] :: r := by
  cases p with
  | nil =>
    have e : kept t [] = [] := List.filter_eq_nil_iff.mpr fun o _ => by simp [keptB]
    rw [e]
    cases q with
    | node h ks =>
      unfold below
      rw [places]
      exact ⟨_, rfl⟩
  | cons i p =>
    cases t with
    | node h ks =>
      unfold kept
      rw [places, List.filter_cons_of_pos (by simp [keptB])]
      exact ⟨_, rfl⟩
mutual
theorem kids_set_size : ∀ (ks : List Tm) (i : Nat) (k q : Tm), ks[i]? = some k → sizes (ks.set i q) + size k = sizes ks + size q
  | [], i, k, q, h => by cases h
  | k0 :: ks, 0, k, q, h => by
    have e : k0 = k := by simpa using h
    subst e
    rw [List.set_cons_zero, sizes, sizes]
    omega
  | k0 :: ks, i + 1, k, q, h => by
    have := kids_set_size ks i k q (by simpa using h)
    rw [List.set_cons_succ, sizes, sizes]
    omega
end
theorem put_size : ∀ (p : List Nat) {t u q : Tm}, at_ t p = some u → size (put t p q) ≤ size t + size q
  | [], t, u, q, _ => by show size q ≤ _; omega
  | i :: p, t, u, q, e => by
    rw [at_] at e
    cases h : t.kids[i]? with
    | none => rw [h] at e; cases e
    | some k =>
      rw [h] at e
      have ih := put_size p (q := q) e
      rw [put_cons h]
      cases t with
      | node hd ks =>
        have s := kids_set_size ks i k (put k p q) h
        show size (.node hd (ks.set i (put k p q))) ≤ size (.node hd ks) + size q
        rw [size, size]
        omega
theorem put_ht : ∀ (p : List Nat) {t u q : Tm}, at_ t p = some u → ht (put t p q) ≤ ht t + ht q
  | [], t, u, q, _ => by show ht q ≤ _; omega
  | i :: p, t, u, q, e => by
    rw [at_] at e
    cases h : t.kids[i]? with
    | none => rw [h] at e; cases e
    | some k =>
      rw [h] at e
      have ih := put_ht p (q := q) e
      have hk := ht_kid (List.mem_of_getElem? h)
      rw [put_cons h]
      cases t with
      | node hd ks =>
        show ht (.node hd (ks.set i (put k p q))) ≤ ht (.node hd ks) + ht q
        rw [ht, ht] at *
        have : hts (ks.set i (put k p q)) ≤ hts ks + ht q := hts_le fun k' m => by
          rcases List.mem_or_eq_of_mem_set m with m | rfl
          · have := hts_mem m
            omega
          · have : ht k ≤ hts ks := hts_mem (List.mem_of_getElem? h)
            omega
        omega
end P4
end VI
set_option Elab.async false
set_option linter.all false
set_option maxRecDepth 100000
namespace VI
open PySem PySem.Spec PyProof.Rows L2
namespace P4

/-! what stands in a place, by its form -/
def Std (f : Str) (p : PyData) (L : List PyData) : Prop := ∀ (n : Nat) (S : Store), callN (n + 1) 0 [sw f, .d p] S = .ok (.d (.list L)) S
theorem std_one {p : PyData} : Std "one" p [p] := fun n S => by kernel_rfl
theorem std_per0 : Std "perhaps one" .none [] := fun n S => by kernel_rfl
theorem std_per1 {xs : List PyData} : Std "perhaps one" (.tuple xs) [.tuple xs] := fun n S => by kernel_rfl
theorem std_sev {xs : List PyData} : Std "several" (.tuple xs) xs := fun n S => by kernel_rfl
theorem std_number {p : PyData} : Std "number" p [] := fun n S => by kernel_rfl
theorem std_truth {p : PyData} : Std "truth" p [] := fun n S => by kernel_rfl
theorem std_name {p : PyData} : Std "name" p [] := fun n S => by kernel_rfl
theorem std_small {p : PyData} : Std "small" p [] := fun n S => by kernel_rfl
theorem std_maker {p : PyData} : Std "maker" p [] := fun n S => by kernel_rfl
theorem std_label {p : PyData} : Std "label" p [] := fun n S => by kernel_rfl
theorem std_sign {p : PyData} : Std "sign" p [] := fun n S => by kernel_rfl
theorem pairs_snd : ∀ {xs ks : List PyData}, xs.length = ks.length → ((pairs xs ks).map W.d).map (fun w => match w with | .d (.tuple [_, k]) => k | _ => PyData.none) = ks
  | [], [], _ => rfl
  | [], _ :: _, h => by cases h
  | _ :: _, [], h => by cases h
  | x :: xs, k :: ks, h => by
    show k :: ((pairs xs ks).map W.d).map _ = _
    rw [pairs_snd (by simpa using h)]
theorem pairs_mem : ∀ {xs ks : List PyData} {w : W}, w ∈ (pairs xs ks).map W.d → ∃ x k, w = .d (.tuple [x, k]) ∧ x ∈ xs ∧ k ∈ ks
  | [], ks, w, h => by cases ks <;> cases h
  | _ :: _, [], w, h => by cases h
  | x :: xs, k :: ks, w, h => by
    have h' : w ∈ W.d (.tuple [x, k]) :: (pairs xs ks).map W.d := h
    rcases List.mem_cons.mp h' with rfl | m
    · exact ⟨x, k, rfl, by simp, by simp⟩
    · obtain ⟨x', k', e, m1, m2⟩ := pairs_mem m
      exact ⟨x', k', e, by simp [m1], by simp [m2]⟩
theorem pairs_len {xs ks : List PyData} : (pairs xs ks).length = min xs.length ks.length := by
  unfold pairs
  rw [List.length_zipWith]
theorem std_pairs {f : Str} (hf : ∀ (n : Nat) (p : PyData) (S : Store), callN (n + 1) 0 [sw f, .d p] S = toR (fSeq (fIf (fun _ S => .ok true S) (fRet (fLc (fItS (fVar 1)) (gtTup 2 (gtCons (gtName 2) (gtCons (gtName 3) gtNil))) fYes (fVar 3) [2, 3])) fNext) (fRet (fL gLst fA0)) [some (sw f), some (.d p), none, none] S))
    {xs ks : List PyData} (h : xs.length = ks.length) (hz : xs.length < 1000000) : Std f (.tuple (pairs xs ks)) ks := fun n S => by
  rw [hf]
  refine ret_ok (ev_seqR ((ev_yes rfl).trans (ev_ret ?_)))
  obtain ⟨ok, hok, hit⟩ := it_pure (a := fVar 1) (ρ := [some (sw f), some (.d (.tuple (pairs xs ks))), none, none]) (S := S) (x := .tuple (pairs xs ks)) (ev_var rfl) (.inr rfl)
  have := flc_all (g := gtTup 2 (gtCons (gtName 2) (gtCons (gtName 3) gtNil))) (el := fVar 3) (vs := [2, 3]) (f := fun w => match w with | .d (.tuple [_, k]) => k | _ => PyData.none) hit (by rw [List.length_map, pairs_len]; omega) (fun S' _ => hok S') fun w m S' s => by
    obtain ⟨x, k, rfl, _, _⟩ := pairs_mem m
    exact ⟨_, rfl, rfl⟩
  rw [pairs_snd h] at this
  exact this
theorem std_group {xs ks : List PyData} (h : xs.length = ks.length) (hz : xs.length < 1000000) : Std "group" (.tuple (pairs xs ks)) ks := std_pairs (fun n p S => by kernel_rfl) h hz
theorem std_fields {xs ks : List PyData} (h : xs.length = ks.length) (hz : xs.length < 1000000) : Std "fields" (.tuple (pairs xs ks)) ks := std_pairs (fun n p S => by kernel_rfl) h hz
theorem std_rows {xs ks : List PyData} (h : xs.length = ks.length) (hz : xs.length < 1000000) : Std "rows" (.tuple (pairs xs ks)) ks := std_pairs (fun n p S => by kernel_rfl) h hz
end P4
end VI
set_option Elab.async false
set_option linter.all false
set_option maxRecDepth 100000
namespace VI
open PySem PySem.Spec PyProof.Rows L2
namespace P4

/-! what is put in a place, by its form -/
def Rfl (f : Str) (p : PyData) (L : List PyData) (q : PyData) : Prop := ∀ (n : Nat) (S : Store), callN (n + 1) 1 [sw f, .d p, .d (.list L)] S = .ok (.d q) S
theorem rfl_one {p k : PyData} : Rfl "one" p [k] k := fun n S => by kernel_rfl
theorem rfl_per0 {p : PyData} : Rfl "perhaps one" p [] .none := fun n S => by kernel_rfl
theorem rfl_per1 {p k : PyData} : Rfl "perhaps one" p [k] k := fun n S => by kernel_rfl
theorem rfl_sev {p : PyData} {L : List PyData} : Rfl "several" p L (.tuple L) := fun n S => by kernel_rfl
theorem rfl_number {p : PyData} {L : List PyData} : Rfl "number" p L p := fun n S => by kernel_rfl
theorem rfl_truth {p : PyData} {L : List PyData} : Rfl "truth" p L p := fun n S => by kernel_rfl
theorem rfl_name {p : PyData} {L : List PyData} : Rfl "name" p L p := fun n S => by kernel_rfl
theorem rfl_small {p : PyData} {L : List PyData} : Rfl "small" p L p := fun n S => by kernel_rfl
theorem rfl_maker {p : PyData} {L : List PyData} : Rfl "maker" p L p := fun n S => by kernel_rfl
theorem rfl_label {p : PyData} {L : List PyData} : Rfl "label" p L p := fun n S => by kernel_rfl
theorem rfl_sign {p : PyData} {L : List PyData} : Rfl "sign" p L p := fun n S => by kernel_rfl
noncomputable abbrev pairE : FE := (fLc (fRng zipK (fAc (fVar 1) (fAc (fVar 2) fA0))) (gtTup 2 (gtCons (gtName 3) (gtCons (gtName 4) gtNil))) fYes (fL gTup (fAc (f2 gIx (fVar 3) (fC (.int 0))) (fAc (fVar 4) fA0))) [3, 4])
def zipP (w : W) : PyData := match w with
  | .d (.tuple [.tuple (x :: _), k]) => .tuple [x, k]
  | _ => .none
theorem zip_pairs : ∀ {xs ks L : List PyData}, xs.length = ks.length → xs.length = L.length → (List.zipWith pairW ((pairs xs ks).map W.d) (L.map W.d)).map zipP = pairs xs L
  | [], ks, L, _, _ => by cases ks <;> cases L <;> rfl
  | _ :: _, [], _, h, _ => by cases h
  | _ :: _, _ :: _, [], _, h => by cases h
  | x :: xs, k :: ks, l :: L, h, h2 => by
    show PyData.tuple [x, l] :: (List.zipWith pairW ((pairs xs ks).map W.d) (L.map W.d)).map zipP = _
    rw [zip_pairs (by simpa using h) (by simpa using h2)]
    rfl
theorem zip_mem : ∀ {xs ks L : List PyData} {w : W}, w ∈ List.zipWith pairW ((pairs xs ks).map W.d) (L.map W.d) → ∃ x k l, w = .d (.tuple [.tuple [x, k], l])
  | [], ks, L, w, h => by cases ks <;> cases L <;> cases h
  | _ :: _, [], L, w, h => by cases L <;> cases h
  | _ :: _, _ :: _, [], w, h => by cases h
  | x :: xs, k :: ks, l :: L, w, h => by
    have h' : w ∈ W.d (.tuple [.tuple [x, k], l]) :: List.zipWith pairW ((pairs xs ks).map W.d) (L.map W.d) := h
    rcases List.mem_cons.mp h' with rfl | m
    · exact ⟨_, _, _, rfl⟩
    · exact zip_mem m
/-- pairs anew, whatever the slots are called -/
theorem pair_new {a b : FE} {i j : Nat} {ρ : Rho} {S : Store} {xs ks L : List PyData} {q : PyData} (hij : i ≠ j) (hi : i < ρ.length) (hj : j < ρ.length) (ea : a ρ S = .ok (tu (pairs xs ks)) S) (eb : b ρ S = .ok (.d q) S) (hq : q = .list L ∨ q = .tuple L) (h : xs.length = ks.length) (h2 : xs.length = L.length) (hz : xs.length < 1000000) :
    fLc (fRng zipK (fAc a (fAc b fA0))) (gtTup 2 (gtCons (gtName i) (gtCons (gtName j) gtNil))) fYes (fL gTup (fAc (f2 gIx (fVar i) (fC (.int 0))) (fAc (fVar j) fA0))) [i, j] ρ S = .ok (.d (.list (pairs xs L))) S := by
  have hit : ∃ ok, (∀ S', ok S') ∧ fRng zipK (fAc a (fAc b fA0)) ρ S = .ok ⟨List.zipWith pairW ((pairs xs ks).map W.d) (L.map W.d), ok⟩ S := by
    unfold fRng
    rw [ev_ac ea (ev_one eb), R_ok]
    rcases hq with rfl | rfl
    · exact ⟨fun _ => True ∧ True, fun _ => ⟨trivial, trivial⟩, rfl⟩
    · exact ⟨fun _ => True ∧ True, fun _ => ⟨trivial, trivial⟩, rfl⟩
  obtain ⟨ok, hok, hit⟩ := hit
  have r := flc_all (g := gtTup 2 (gtCons (gtName i) (gtCons (gtName j) gtNil))) (el := fL gTup (fAc (f2 gIx (fVar i) (fC (.int 0))) (fAc (fVar j) fA0))) (vs := [i, j]) (f := zipP) hit (by rw [List.length_zipWith, List.length_map, pairs_len]; omega) (fun S' _ => hok S') fun w m S' s => by
    obtain ⟨x, k, l, rfl⟩ := zip_mem m
    refine ⟨((wipeR ρ [i, j]).set i (some (tu [x, k]))).set j (some (.d l)), rfl, ?_⟩
    have li : (wipeR ρ [i, j]).length = ρ.length := by
      show ((ρ.set j none).set i none).length = _
      rw [List.length_set, List.length_set]
    refine ev_L (ws := [.d x, .d l]) (ev_ac (ev_f2 (x := tu [x, k]) (ev_var ?_) rfl rfl) (ev_one (ev_var ?_))) rfl
    · rw [List.getElem?_set_ne (Ne.symm hij), List.getElem?_set_self (by rw [li]; exact hi)]
    · rw [List.getElem?_set_self (by rw [List.length_set, li]; exact hj)]
  rw [zip_pairs h h2] at r
  exact r
theorem rfl_pairs {f : Str} (hf : ∀ (n : Nat) (p : PyData) (L : List PyData) (S : Store), callN (n + 1) 1 [sw f, .d p, .d (.list L)] S = toR (fSeq (fIf (fun _ S => .ok true S) (fRet (fL gTupleA (fAc pairE fA0))) fNext) (fRet (fVar 1)) [some (sw f), some (.d p), some (.d (.list L)), none, none] S))
    {xs ks L : List PyData} (h : xs.length = ks.length) (h2 : xs.length = L.length) (hz : xs.length < 1000000) : Rfl f (.tuple (pairs xs ks)) L (.tuple (pairs xs L)) := fun n S => by
  rw [hf]
  refine ret_ok (ev_seqR ((ev_yes rfl).trans (ev_ret (ev_L (ws := [.d (.list (pairs xs L))]) (ev_one ?_) rfl))))
  exact pair_new (ks := ks) (by decide) (by show 3 < 5; decide) (by show 4 < 5; decide) (ev_var rfl) (ev_var rfl) (.inl rfl) h h2 hz
theorem rfl_group {xs ks L : List PyData} (h : xs.length = ks.length) (h2 : xs.length = L.length) (hz : xs.length < 1000000) : Rfl "group" (.tuple (pairs xs ks)) L (.tuple (pairs xs L)) := rfl_pairs (fun n p L S => by kernel_rfl) h h2 hz
theorem rfl_fields {xs ks L : List PyData} (h : xs.length = ks.length) (h2 : xs.length = L.length) (hz : xs.length < 1000000) : Rfl "fields" (.tuple (pairs xs ks)) L (.tuple (pairs xs L)) := rfl_pairs (fun n p L S => by kernel_rfl) h h2 hz
theorem rfl_rows {xs ks L : List PyData} (h : xs.length = ks.length) (h2 : xs.length = L.length) (hz : xs.length < 1000000) : Rfl "rows" (.tuple (pairs xs ks)) L (.tuple (pairs xs L)) := rfl_pairs (fun n p L S => by kernel_rfl) h h2 hz

/-! a node: its word, and its places by their forms -/
structure FP where
  f : Str
  p : PyData
  L : List PyData
def word : Hd → Str
  | .leaf w _ => w
  | .fn _ => "fn"
  | .lt _ => "let"
  | .rc _ => "rec"
  | .tup => "tuple"
  | .rd _ => "record"
  | .fd _ => "field"
  | .mk0 _ => "make"
  | .mk1 _ => "make"
  | .mt _ => "match"
  | .op _ => "op"
  | .fl w => w
def k0 (ks : List PyData) : PyData := ks.getD 0 .none
def k1 (ks : List PyData) : PyData := ks.getD 1 .none
def fps : Hd → List PyData → List FP
  | .leaf w d, _ => [⟨if w = "num" then "number" else w, d, []⟩]
  | .fn x, ks => [⟨"small", x, []⟩, ⟨"one", k0 ks, [k0 ks]⟩]
  | .lt x, ks => [⟨"name", x, []⟩, ⟨"one", k0 ks, [k0 ks]⟩, ⟨"one", k1 ks, [k1 ks]⟩]
  | .rc xs, ks => [⟨"group", .tuple (pairs xs ks), ks.take xs.length⟩, ⟨"one", ks.getD xs.length .none, [ks.getD xs.length .none]⟩]
  | .tup, ks => [⟨"several", .tuple ks, ks⟩]
  | .rd xs, ks => [⟨"fields", .tuple (pairs xs ks), ks⟩]
  | .fd x, ks => [⟨"one", k0 ks, [k0 ks]⟩, ⟨"label", x, []⟩]
  | .mk0 x, _ => [⟨"maker", x, []⟩, ⟨"perhaps one", .none, []⟩]
  | .mk1 x, ks => [⟨"maker", x, []⟩, ⟨"perhaps one", k0 ks, [k0 ks]⟩]
  | .mt xs, ks => [⟨"one", k0 ks, [k0 ks]⟩, ⟨"rows", .tuple (pairs xs ks.tail), ks.tail⟩]
  | .op x, ks => [⟨"sign", x, []⟩, ⟨"one", k0 ks, [k0 ks]⟩, ⟨"one", k1 ks, [k1 ks]⟩]
  | .fl _, ks => ks.map fun k => ⟨"one", k, [k]⟩
theorem len1 {α : Type} {ks : List α} (h : ks.length = 1) : ∃ a, ks = [a] := by
  match ks, h with
  | [a], _ => exact ⟨a, rfl⟩
theorem len2 {α : Type} {ks : List α} (h : ks.length = 2) : ∃ a b, ks = [a, b] := by
  match ks, h with
  | [a, b], _ => exact ⟨a, b, rfl⟩
theorem len3 {α : Type} {ks : List α} (h : ks.length = 3) : ∃ a b c, ks = [a, b, c] := by
  match ks, h with
  | [a, b, c], _ => exact ⟨a, b, c, rfl⟩
theorem len0 {α : Type} {ks : List α} (h : ks.length = 0) : ks = [] := List.eq_nil_of_length_eq_zero h
theorem lenS {α : Type} {ks : List α} {n : Nat} (h : ks.length = n + 1) : ∃ r a, ks = r ++ [a] ∧ r.length = n := by
  refine ⟨ks.dropLast, ks.getLast (by intro e; rw [e] at h; simp at h), (List.dropLast_concat_getLast _).symm, ?_⟩
  rw [List.length_dropLast]
  omega
theorem lenC {α : Type} {ks : List α} {n : Nat} (h : ks.length = n + 1) : ∃ a r, ks = a :: r ∧ r.length = n := by
  match ks, h with
  | a :: r, h => exact ⟨a, r, rfl, by simpa using h⟩
theorem pairs_cut {xs r : List PyData} {a : PyData} (h : r.length = xs.length) : pairs xs (r ++ [a]) = pairs xs r := by
  unfold pairs
  have : xs = xs ++ [] := by simp
  rw [show List.zipWith (fun x k => PyData.tuple [x, k]) xs (r ++ [a]) = List.zipWith (fun x k => PyData.tuple [x, k]) (xs ++ []) (r ++ [a]) by rw [← this], List.zipWith_append (by omega)]
  simp
theorem last_get {r : List PyData} {a : PyData} {n : Nat} (h : r.length = n) : (r ++ [a]).getD n .none = a := by
  rw [List.getD_eq_getElem?_getD, List.getElem?_append_right (by omega), h, Nat.sub_self]
  rfl
theorem enc_fps {h : Hd} {ks : List PyData} (hf : fits h ks.length) : encN h ks = .tuple (.str (word h) :: (fps h ks).map (·.p)) := by
  cases h <;> first | rfl | skip
  show PyData.tuple (_ :: ks) = PyData.tuple (_ :: (ks.map _).map _)
  rw [List.map_map]
  congr 2
  exact (List.map_id ks).symm
def TupA (ks : List PyData) : Prop := ∀ k ∈ ks, ∃ xs, k = .tuple xs
theorem fps_L {h : Hd} {ks : List PyData} (hf : fits h ks.length) : ((fps h ks).map (·.L)).flatten = ks := by
  cases h with
  | leaf w d => rw [len0 hf.1]; rfl
  | fn x => obtain ⟨a, rfl⟩ := len1 hf; rfl
  | lt x => obtain ⟨a, b, rfl⟩ := len2 hf; rfl
  | rc xs =>
    obtain ⟨r, a, rfl, hr⟩ := lenS hf
    show ((r ++ [a]).take xs.length) ++ ([(r ++ [a]).getD xs.length .none] ++ []) = _
    rw [last_get hr, ← hr, List.take_left]
    rfl
  | tup => show ks ++ [] = ks; simp
  | rd xs => show ks ++ [] = ks; simp
  | fd x => obtain ⟨a, rfl⟩ := len1 hf; rfl
  | mk0 x => rw [len0 hf]; rfl
  | mk1 x => obtain ⟨a, rfl⟩ := len1 hf; rfl
  | mt xs =>
    obtain ⟨a, r, rfl, hr⟩ := lenC hf
    show [a] ++ (r ++ []) = a :: r
    simp
  | op x => obtain ⟨a, b, rfl⟩ := len2 hf; rfl
  | fl w =>
    show ((ks.map _).map _).flatten = ks
    rw [List.map_map]
    clear hf
    induction ks with
    | nil => rfl
    | cons k ks ih => rw [List.map_cons, List.flatten_cons, ih]; rfl
theorem fps_std {h : Hd} {ks : List PyData} (hf : fits h ks.length) (ht : TupA ks) (hz : ks.length < 1000000) : ∀ x ∈ fps h ks, Std x.f x.p x.L := by
  have two : ∀ {a b : FP}, Std a.f a.p a.L → Std b.f b.p b.L → ∀ x ∈ [a, b], Std x.f x.p x.L := fun ha hb x m => by
    simp only [List.mem_cons, List.not_mem_nil, or_false] at m
    rcases m with rfl | rfl
    · exact ha
    · exact hb
  have thr : ∀ {a b c : FP}, Std a.f a.p a.L → Std b.f b.p b.L → Std c.f c.p c.L → ∀ x ∈ [a, b, c], Std x.f x.p x.L := fun ha hb hc x m => by
    simp only [List.mem_cons, List.not_mem_nil, or_false] at m
    rcases m with rfl | rfl | rfl
    · exact ha
    · exact hb
    · exact hc
  have one : ∀ {a : FP}, Std a.f a.p a.L → ∀ x ∈ [a], Std x.f x.p x.L := fun ha x m => by
    rw [List.mem_singleton.mp m]; exact ha
  cases h with
  | leaf w d =>
    obtain ⟨_, rfl | rfl | rfl⟩ := hf
    · exact one (a := ⟨"name", d, []⟩) std_name
    · exact one (a := ⟨"number", d, []⟩) std_number
    · exact one (a := ⟨"truth", d, []⟩) std_truth
  | fn x => exact two std_small std_one
  | lt x => exact thr std_name std_one std_one
  | rc xs =>
    obtain ⟨r, a, rfl, hr⟩ := lenS hf
    refine two (a := ⟨"group", .tuple (pairs xs (r ++ [a])), (r ++ [a]).take xs.length⟩) ?_ std_one
    rw [pairs_cut hr]
    show Std "group" _ ((r ++ [a]).take xs.length)
    rw [← hr, List.take_left]
    rw [List.length_append] at hz
    exact std_group hr.symm (by omega)
  | tup => exact one std_sev
  | rd xs => exact one (std_fields hf.symm (by rw [← show ks.length = xs.length from hf]; exact hz))
  | fd x => exact two std_one std_label
  | mk0 x => exact two std_maker std_per0
  | mk1 x =>
    obtain ⟨a, rfl⟩ := len1 hf
    obtain ⟨xs, rfl⟩ := ht a (by simp)
    exact two std_maker std_per1
  | mt xs =>
    obtain ⟨a, r, rfl, hr⟩ := lenC hf
    rw [List.length_cons] at hz
    exact two std_one (std_rows hr.symm (by omega))
  | op x => exact thr std_sign std_one std_one
  | fl w =>
    intro x m
    obtain ⟨k, _, rfl⟩ := List.mem_map.mp m
    exact std_one
theorem shape_of {h : Hd} {ks : List PyData} (hf : fits h ks.length) (S : Store) : gKD k_SHAPES (tu [.str "term", .str (word h)]) S = some (tu ((fps h ks).map fun x => .str x.f), S) := by
  cases h with
  | leaf w d =>
    obtain ⟨_, rfl | rfl | rfl⟩ := hf <;> kernel_rfl
  | fl w =>
    rcases hf with ⟨rfl, hl⟩ | ⟨rfl, hl⟩ | ⟨rfl, hl⟩ | ⟨rfl | rfl | rfl, hl⟩
    · obtain ⟨a, b, rfl⟩ := len2 hl; kernel_rfl
    · obtain ⟨a, b, c, rfl⟩ := len3 hl; kernel_rfl
    · obtain ⟨a, b, rfl⟩ := len2 hl; kernel_rfl
    · obtain ⟨a, rfl⟩ := len1 hl; kernel_rfl
    · obtain ⟨a, rfl⟩ := len1 hl; kernel_rfl
    · obtain ⟨a, rfl⟩ := len1 hl; kernel_rfl
  | _ => kernel_rfl
/-- parts anew, place by place -/
def Renew : List FP → List FP → Prop
  | [], [] => True
  | a :: as, b :: bs => (a.f = b.f ∧ a.L.length = b.L.length ∧ Rfl a.f a.p b.L b.p) ∧ Renew as bs
  | _, _ => False
theorem fps_renew {h : Hd} {ks ls : List PyData} (hf : fits h ks.length) (hl : fits h ls.length) (hkl : ks.length = ls.length) (hz : ks.length < 1000000) : Renew (fps h ks) (fps h ls) := by
  cases h with
  | leaf w d =>
    obtain ⟨_, rfl | rfl | rfl⟩ := hf
    · exact ⟨⟨rfl, rfl, rfl_name⟩, trivial⟩
    · exact ⟨⟨rfl, rfl, rfl_number⟩, trivial⟩
    · exact ⟨⟨rfl, rfl, rfl_truth⟩, trivial⟩
  | fn x => exact ⟨⟨rfl, rfl, rfl_small⟩, ⟨rfl, rfl, rfl_one⟩, trivial⟩
  | lt x => exact ⟨⟨rfl, rfl, rfl_name⟩, ⟨rfl, rfl, rfl_one⟩, ⟨rfl, rfl, rfl_one⟩, trivial⟩
  | rc xs =>
    obtain ⟨r, a, rfl, hr⟩ := lenS hf
    obtain ⟨r2, a2, rfl, hr2⟩ := lenS hl
    rw [List.length_append] at hz
    refine ⟨⟨rfl, ?_, ?_⟩, ⟨rfl, rfl, rfl_one⟩, trivial⟩
    · show ((r ++ [a]).take xs.length).length = ((r2 ++ [a2]).take xs.length).length
      rw [List.length_take, List.length_take, List.length_append, List.length_append]
      omega
    · show Rfl "group" (.tuple (pairs xs (r ++ [a]))) ((r2 ++ [a2]).take xs.length) (.tuple (pairs xs (r2 ++ [a2])))
      rw [pairs_cut hr, pairs_cut hr2]
      rw [show (r2 ++ [a2]).take xs.length = r2 by rw [← hr2, List.take_left]]
      exact rfl_group hr.symm hr2.symm (by omega)
  | tup =>
    exact ⟨⟨rfl, hkl, rfl_sev⟩, trivial⟩
  | rd xs => exact ⟨⟨rfl, by rw [show (FP.mk "fields" (.tuple (pairs xs ks)) ks).L = ks from rfl]; exact hf.trans hl.symm, rfl_fields hf.symm hl.symm (by rw [← show ks.length = xs.length from hf]; exact hz)⟩, trivial⟩
  | fd x => exact ⟨⟨rfl, rfl, rfl_one⟩, ⟨rfl, rfl, rfl_label⟩, trivial⟩
  | mk0 x => exact ⟨⟨rfl, rfl, rfl_maker⟩, ⟨rfl, rfl, rfl_per0⟩, trivial⟩
  | mk1 x => exact ⟨⟨rfl, rfl, rfl_maker⟩, ⟨rfl, rfl, rfl_per1⟩, trivial⟩
  | mt xs =>
    obtain ⟨a, r, rfl, hr⟩ := lenC hf
    obtain ⟨a2, r2, rfl, hr2⟩ := lenC hl
    rw [List.length_cons] at hz
    exact ⟨⟨rfl, rfl, rfl_one⟩, ⟨rfl, hr.trans hr2.symm, rfl_rows hr.symm hr2.symm (by omega)⟩, trivial⟩
  | op x => exact ⟨⟨rfl, rfl, rfl_sign⟩, ⟨rfl, rfl, rfl_one⟩, ⟨rfl, rfl, rfl_one⟩, trivial⟩
  | fl w =>
    show Renew (ks.map fun k => ⟨"one", k, [k]⟩) (ls.map fun k => ⟨"one", k, [k]⟩)
    clear hf hl hz
    induction ks generalizing ls with
    | nil =>
      rw [len0 hkl.symm]
      exact trivial
    | cons k ks ih =>
      obtain ⟨l, ls, rfl, e⟩ := lenC hkl.symm
      exact ⟨⟨rfl, rfl, rfl_one⟩, ih e.symm⟩
end P4
end VI
set_option Elab.async false
set_option linter.all false
set_option maxRecDepth 100000
namespace VI
open PySem PySem.Spec PyProof.Rows L2
theorem g_addI {i j : Int} {S : Store} : gAdd (iw i) (iw j) S = some (iw (i + j), S) := rfl
theorem sIx_cut {α : Type} (xs : List α) (i j : Nat) : cutG xs (some (i : Int)) (some (j : Int)) = (xs.drop i).take (j - i) := by
  unfold cutG
  rw [HT.sIx_nat, HT.sIx_nat]
  by_cases h : i ≤ xs.length
  · rw [Nat.min_eq_left h]
    by_cases h2 : j ≤ xs.length
    · rw [Nat.min_eq_left h2]
    · rw [Nat.min_eq_right (a := j) (by omega)]
      rw [List.take_of_length_le (i := xs.length - i) (by rw [List.length_drop]; omega), List.take_of_length_le (by rw [List.length_drop]; omega)]
  · rw [List.drop_of_length_le (i := i) (by omega), Nat.min_eq_right (a := i) (by omega), List.drop_of_length_le (Nat.le_refl _), List.take_nil, List.take_nil]
theorem cut_to {α : Type} (xs : List α) (j : Nat) : cutG xs none (some (j : Int)) = xs.take j := by
  unfold cutG
  rw [HT.sIx_none, HT.sIx_nat, List.drop_zero, Nat.sub_zero, ← List.take_eq_take_min]
theorem cut_from {α : Type} (xs : List α) (i : Nat) : cutG xs (some (i : Int)) none = xs.drop i := by
  unfold cutG
  rw [HT.sIx_nat, HT.sIx_none]
  by_cases h : i ≤ xs.length
  · rw [Nat.min_eq_left h, List.take_of_length_le (by rw [List.length_drop]; omega)]
  · rw [Nat.min_eq_right (by omega), List.drop_of_length_le (Nat.le_refl _), List.take_nil, List.drop_of_length_le (by omega)]
theorem g_ixA {a : W} {xs : List PyData} {i : Nat} {x : PyData} {S : Store} (ha : asSeq a S = some xs) (h : xs[i]? = some x) : gIx a (iw (i : Int)) S = some (.d x, S) := by
  have hi := (List.getElem?_eq_some_iff.mp h).1
  show (match asSeq a S with | some xs => (atI xs (i : Int)).map fun x => (W.d x, S) | none => _) = _
  rw [ha]
  show ((atI xs (i : Int)).map fun x => (W.d x, S)) = _
  rw [atI_in (by omega) (by omega), Int.toNat_natCast, h]
  rfl
theorem g_ix0 {x : PyData} {r : List PyData} {S : Store} : gIx (tu (x :: r)) (iw 0) S = some (.d x, S) := g_ixA (i := 0) rfl rfl
namespace P4

def FPw (x : FP) : W := .d (.tuple [.str x.f, x.p])
theorem zip_fps : ∀ fs : List FP, List.zipWith pairW ((fs.map fun x => PyData.str x.f).map W.d) ((fs.map (·.p)).map W.d) = fs.map FPw
  | [] => rfl
  | x :: fs => by
    show pairW _ _ :: List.zipWith pairW _ _ = _
    rw [zip_fps fs]
    rfl
/-- the walk over forms and places -/
theorem it_fps {ρ : Rho} {S : Store} {h : Hd} {ks : List PyData} (hf : fits h ks.length) (h0 : ρ[0]? = some (some (sw "term"))) (h1 : ρ[1]? = some (some (.d (encN h ks)))) : ∃ ok, (∀ S', ok S') ∧
    fRng zipK (fAc (f1 (gKD k_SHAPES) (fL gTup (fAc (fVar 0) (fAc (f2 gIx (fVar 1) (fC (.int 0))) fA0)))) (fAc (fSl gSlA (fVar 1) (fPart (fC (.int 1))) fNoPart) fA0)) ρ S = .ok ⟨(fps h ks).map FPw, ok⟩ S := by
  rw [enc_fps hf] at h1
  have e1 : f1 (gKD k_SHAPES) (fL gTup (fAc (fVar 0) (fAc (f2 gIx (fVar 1) (fC (.int 0))) fA0))) ρ S = .ok (tu ((fps h ks).map fun x => .str x.f)) S :=
    ev_f1 (ev_L (ws := [sw "term", sw (word h)]) (ev_ac (ev_var h0) (ev_one (ev_f2 (ev_var h1) rfl g_ix0))) rfl) (shape_of hf S)
  have sl : gSlA (tu (.str (word h) :: (fps h ks).map (·.p))) (some 1) none S = some (tu ((fps h ks).map (·.p)), S) := by
    show some (tu (cutG _ (some ((1 : Nat) : Int)) none), S) = _
    rw [cut_from]
    rfl
  have e2 : fSl gSlA (fVar 1) (fPart (fC (.int 1))) fNoPart ρ S = .ok (tu ((fps h ks).map (·.p))) S := by
    have v1 : fVar 1 ρ S = .ok (tu (.str (word h) :: (fps h ks).map (·.p))) S := ev_var h1
    simp only [fSl, v1, R_ok, fPart, fC, intOf, fNoPart, sl, lift_some]
  refine ⟨fun _ => True ∧ True, fun _ => ⟨trivial, trivial⟩, ?_⟩
  unfold fRng
  rw [ev_ac e1 (ev_one e2), R_ok, ← zip_fps]
  rfl
theorem inner_loop (n : Nat) {l : Nat} {ok : Store → Prop} (hok : ∀ S, ok S) {a0 a1 : Option W} : ∀ (fs : List FP) (acc : List PyData) (a3 a4 : Option W) (S : Store), S[l]? = some (.lst acc) → (∀ x ∈ fs, Std x.f x.p x.L) → acc.length + ((fs.map (·.L)).flatten).length < 1000000 →
    ∃ a3' a4', forL ok (gtTup 2 (gtCons (gtName 3) (gtCons (gtName 4) gtNil))) (fDrop (fMeth mExtend (fVar 2) (fAc (fCall 2 (callN (n + 1) 0) (fAc (fVar 3) (fAc (fVar 4) fA0))) fA0))) (fs.map FPw) [a0, a1, some (.loc l), a3, a4] S = .next [a0, a1, some (.loc l), a3', a4'] (S.set l (.lst (acc ++ (fs.map (·.L)).flatten)))
  | [], acc, a3, a4, S, hS, _, _ => ⟨a3, a4, by
    simp only [List.map_nil, forL, if_pos (hok S), List.flatten_nil, List.append_nil]
    rw [set_same hS]⟩
  | x :: fs, acc, a3, a4, S, hS, hst, hz => by
    rw [List.map_cons, List.flatten_cons, List.length_append] at hz
    have st := hst x (by simp) n S
    obtain ⟨b3, b4, ih⟩ := inner_loop n hok (a0 := a0) (a1 := a1) fs (acc ++ x.L) (some (sw x.f)) (some (.d x.p)) (S.set l (.lst (acc ++ x.L))) (at_set hS) (fun y m => hst y (by simp [m])) (by rw [List.length_append]; omega)
    refine ⟨b3, b4, ?_⟩
    have gt : gtTup 2 (gtCons (gtName 3) (gtCons (gtName 4) gtNil)) (FPw x) [a0, a1, some (.loc l), a3, a4] = some [a0, a1, some (.loc l), some (sw x.f), some (.d x.p)] := rfl
    have mx : mExtend (.loc l) [.d (.list x.L)] S = some (.d .none, S.set l (.lst (acc ++ x.L))) := by
      unfold mExtend
      simp only [hS, asL]
      rw [if_pos (show acc.length + x.L.length ≤ lim by show _ ≤ 16777216; omega)]
    have bd : fDrop (fMeth mExtend (fVar 2) (fAc (fCall 2 (callN (n + 1) 0) (fAc (fVar 3) (fAc (fVar 4) fA0))) fA0)) [a0, a1, some (.loc l), some (sw x.f), some (.d x.p)] S = .next [a0, a1, some (.loc l), some (sw x.f), some (.d x.p)] (S.set l (.lst (acc ++ x.L))) :=
      ev_drop (ev_meth (ws := [.d (.list x.L)]) (ev_var rfl) (by simp only [liveB, hS]) (ev_one (fcall_at (ws := [sw x.f, .d x.p]) (ev_ac (ev_var rfl) (ev_one (ev_var rfl))) st rfl rfl)) mx)
    rw [List.map_cons, forL, if_pos (hok S), gt]
    show (match fDrop _ _ _ with | .next ρ2 S2 => forL ok _ _ _ ρ2 S2 | .cnt ρ2 S2 => _ | .brk ρ2 S2 => _ | r => r) = _
    rw [bd]
    show forL ok _ _ _ _ _ = _
    rw [ih, List.set_set, List.map_cons, List.flatten_cons, List.append_assoc]
theorem k_inner (n : Nat) {h : Hd} {ks : List PyData} (hf : fits h ks.length) (ht : TupA ks) (hz : ks.length < 1000000) (S : Store) : callN (n + 2) 2 [sw "term", .d (encN h ks)] S = .ok (.loc S.length) (S ++ [.lst ks]) := by
  show toR (b2 (callN (n + 1)) [some (sw "term"), some (.d (encN h ks)), none, none, none] S) = _
  unfold b2
  refine ret_ok ((ev_seq (ρ1 := [some (sw "term"), some (.d (encN h ks)), some (.loc S.length), none, none]) (S1 := S ++ [.lst []]) (ev_asg rfl)).trans ?_)
  obtain ⟨ok, hok, hit⟩ := it_fps (ρ := [some (sw "term"), some (.d (encN h ks)), some (.loc S.length), none, none]) (S := S ++ [.lst []]) hf rfl rfl
  obtain ⟨a3, a4, lp⟩ := inner_loop n (l := S.length) hok (a0 := some (sw "term")) (a1 := some (.d (encN h ks))) (fps h ks) [] none none (S ++ [.lst []]) (by rw [List.getElem?_append_right (Nat.le_refl _), Nat.sub_self]; rfl) (fps_std hf ht hz) (by rw [fps_L hf]; simpa using hz)
  refine (ev_seq (ρ1 := [some (sw "term"), some (.d (encN h ks)), some (.loc S.length), a3, a4]) (S1 := S ++ [.lst ks]) ?_).trans (ev_ret (ev_var rfl))
  unfold fFor
  rw [hit]
  show forL ok _ _ _ _ _ = _
  rw [lp, fps_L hf, List.nil_append, List.set_append_right _ _ (Nat.le_refl _), Nat.sub_self]
  rfl
/-- a call that hands back its new list -/
theorem fcall_new {n : Nat} {g : List W → Store → R W} {fa : FA} {ρ : Rho} {S : Store} {ws : List W} {ks : List PyData} (ea : fa ρ S = .ok ws S) (eg : g ws S = .ok (.loc S.length) (S ++ [.lst ks])) (hn : ws.length = n) : fCall n g fa ρ S = .ok (.d (.list ks)) S := by
  unfold fCall
  rw [ea]
  show (if ws.length = n then frz S.length (g ws S) else R.bad) = _
  rw [if_pos hn, eg]
  have fw : frzW S.length (S ++ [.lst ks]) (.loc S.length) = some (.d (.list ks)) := by
    unfold frzW
    rw [if_neg (by omega), List.getElem?_append_right (Nat.le_refl _), Nat.sub_self]
    rfl
  show (match frzW S.length (S ++ [.lst ks]) (.loc S.length) with | some w' => R.ok w' ((S ++ [SO.lst ks]).take S.length) | none => R.bad) = _
  rw [fw]
  show R.ok _ ((S ++ [SO.lst ks]).take S.length) = _
  rw [List.take_left]
/-- parts_of -/
theorem k_parts (n : Nat) {h : Hd} {ks : List PyData} (hf : fits h ks.length) (ht : TupA ks) (hz : ks.length < 1000000) (S : Store) : callN (n + 3) 5 [.d (encN h ks)] S = .ok (tu ks) S := by
  show toR (b5 (callN (n + 2)) [some (.d (encN h ks))] S) = _
  unfold b5
  exact ret_ok (ev_ret (ev_L (ws := [.d (.list ks)]) (ev_one (fcall_new (ws := [sw "term", .d (encN h ks)]) (ev_ac rfl (ev_one (ev_var rfl))) (k_inner n hf ht hz S) rfl)) rfl))
noncomputable abbrev wB (call : Calls) : FS := (fSeq (fAsg (fL gLen (fAc (fCall 2 (call 0) (fAc (fVar 5) (fAc (fVar 6) fA0))) fA0)) (gtName 7)) (fSeq (fDrop (fMeth mAppend (fVar 3) (fAc (fCall 3 (call 1) (fAc (fVar 5) (fAc (fVar 6) (fAc (fSl gSlA (fVar 2) (fPart (fVar 4)) (fPart (f2 gAdd (fVar 4) (fVar 7)))) fA0)))) fA0))) (fAug 4 (gI2 (fun _ _ => true) fun i j => .int (i + j)) (fVar 7))))
theorem with_loop (n : Nat) {l : Nat} {ok : Store → Prop} (hok : ∀ S, ok S) {a0 a1 : Option W} {ls : List PyData} : ∀ (fs gs : List FP) (acc pre : List PyData) (a5 a6 a7 : Option W) (S : Store), S[l]? = some (.lst acc) → (∀ x ∈ fs, Std x.f x.p x.L) → Renew fs gs → ls = pre ++ (gs.map (·.L)).flatten → acc.length + gs.length < 1000000 →
    ∃ a4' a5' a6' a7', forL ok (gtTup 2 (gtCons (gtName 5) (gtCons (gtName 6) gtNil))) (wB (callN (n + 1))) (fs.map FPw) [a0, a1, some (.d (.list ls)), some (.loc l), some (iw (pre.length : Int)), a5, a6, a7] S = .next [a0, a1, some (.d (.list ls)), some (.loc l), a4', a5', a6', a7'] (S.set l (.lst (acc ++ gs.map (·.p))))
  | [], gs, acc, pre, a5, a6, a7, S, hS, _, hr, hl, hz => by
    cases gs with
    | cons _ _ => exact hr.elim
    | nil =>
      refine ⟨some (iw (pre.length : Int)), a5, a6, a7, ?_⟩
      simp only [List.map_nil, forL, if_pos (hok S), List.append_nil]
      rw [set_same hS]
  | x :: fs, gs, acc, pre, a5, a6, a7, S, hS, hst, hr, hl, hz => by
    cases gs with
    | nil => exact hr.elim
    | cons y gs =>
      obtain ⟨⟨ef, el, rf⟩, hr⟩ := hr
      rw [List.length_cons] at hz
      rw [List.map_cons, List.flatten_cons] at hl
      have st := hst x (by simp) n S
      have rf1 := rf n S
      obtain ⟨b4, b5, b6, b7, ih⟩ := with_loop n hok (a0 := a0) (a1 := a1) (ls := ls) fs gs (acc ++ [y.p]) (pre ++ y.L) (some (sw x.f)) (some (.d x.p)) (some (iw (x.L.length : Int))) (S.set l (.lst (acc ++ [y.p]))) (at_set hS) (fun z m => hst z (by simp [m])) hr (by rw [hl, List.append_assoc]) (by rw [List.length_append, List.length_singleton]; omega)
      refine ⟨b4, b5, b6, b7, ?_⟩
      have gt : gtTup 2 (gtCons (gtName 5) (gtCons (gtName 6) gtNil)) (FPw x) [a0, a1, some (.d (.list ls)), some (.loc l), some (iw (pre.length : Int)), a5, a6, a7] = some [a0, a1, some (.d (.list ls)), some (.loc l), some (iw (pre.length : Int)), some (sw x.f), some (.d x.p), a7] := rfl
      have sl : gSlA (.d (.list ls)) (some (pre.length : Int)) (some ((pre.length : Int) + (x.L.length : Int))) S = some (.d (.list y.L), S) := by
        show some (W.d (.list (cutG ls (some (pre.length : Int)) (some ((pre.length : Int) + (x.L.length : Int))))), S) = _
        have c := sIx_cut ls pre.length (pre.length + x.L.length)
        rw [Nat.add_sub_cancel_left, hl, List.drop_left, el, List.take_left] at c
        rw [← hl] at c
        rw [show ((pre.length : Int) + (x.L.length : Int)) = ((pre.length + y.L.length : Nat) : Int) by rw [el]; rfl, c]
      have mx : mAppend (.loc l) [.d y.p] S = some (.d .none, S.set l (.lst (acc ++ [y.p]))) := by
        unfold mAppend
        simp only [hS]
        rw [if_pos (show acc.length < lim by show _ < 16777216; omega)]
      have bd : wB (callN (n + 1)) [a0, a1, some (.d (.list ls)), some (.loc l), some (iw (pre.length : Int)), some (sw x.f), some (.d x.p), a7] S = .next [a0, a1, some (.d (.list ls)), some (.loc l), some (iw ((pre ++ y.L).length : Int)), some (sw x.f), some (.d x.p), some (iw (x.L.length : Int))] (S.set l (.lst (acc ++ [y.p]))) := by
        refine (ev_seq (ρ1 := [a0, a1, some (.d (.list ls)), some (.loc l), some (iw (pre.length : Int)), some (sw x.f), some (.d x.p), some (iw (x.L.length : Int))]) (S1 := S) (ev_asg (ev_L (ws := [.d (.list x.L)]) (ev_one (fcall_at (ws := [sw x.f, .d x.p]) (ev_ac (ev_var rfl) (ev_one (ev_var rfl))) st rfl rfl)) rfl))).trans ?_
        have es : fSl gSlA (fVar 2) (fPart (fVar 4)) (fPart (f2 gAdd (fVar 4) (fVar 7))) [a0, a1, some (.d (.list ls)), some (.loc l), some (iw (pre.length : Int)), some (sw x.f), some (.d x.p), some (iw (x.L.length : Int))] S = .ok (.d (.list y.L)) S := by
          simp only [fSl, fSeq, fAsg, fVar, fC, f1, f2, fL, fAc, fA0, fTest, fAndT, fOrT, fNotT, fTru, fAndV, fOrV, fIfE, fIf, fRet, fAug, fDrop, fSl, fPart, fNoPart, intOf, gtName, R_ok, toS_ok, lift_some, boolW_ok, truR_b, List.getElem?_cons_zero, List.getElem?_cons_succ, List.set_cons_zero, List.set_cons_succ, g_addI, sl]
        refine (ev_seq (ρ1 := [a0, a1, some (.d (.list ls)), some (.loc l), some (iw (pre.length : Int)), some (sw x.f), some (.d x.p), some (iw (x.L.length : Int))]) (S1 := S.set l (.lst (acc ++ [y.p]))) (ev_drop (ev_meth (ws := [.d y.p]) (ev_var rfl) (by simp only [liveB, hS]) (ev_one (fcall_at (ws := [sw x.f, .d x.p, .d (.list y.L)]) (ev_ac (ev_var rfl) (ev_ac (ev_var rfl) (ev_one es))) rf1 rfl rfl)) mx))).trans ?_
        have e : ((pre ++ y.L).length : Int) = (pre.length : Int) + (x.L.length : Int) := by rw [List.length_append, el]; rfl
        rw [e]
        rfl
      rw [List.map_cons, forL, if_pos (hok S), gt]
      show (match wB _ _ _ with | .next ρ2 S2 => forL ok _ _ _ ρ2 S2 | .cnt ρ2 S2 => _ | .brk ρ2 S2 => _ | r => r) = _
      rw [bd]
      show forL ok _ _ _ _ _ = _
      rw [ih, List.set_set, List.map_cons, List.append_assoc]
      rfl
theorem fps_len {h : Hd} {ls : List PyData} (hl : fits h ls.length) : (fps h ls).length ≤ 3 := by
  cases h <;> first | exact (by decide : (1 : Nat) ≤ 3) | exact (by decide : (2 : Nat) ≤ 3) | exact (by decide : (3 : Nat) ≤ 3) | skip
  show (ls.map _).length ≤ 3
  rw [List.length_map]
  rcases hl with ⟨_, e⟩ | ⟨_, e⟩ | ⟨_, e⟩ | ⟨_, e⟩ <;> omega
theorem k_winner (n : Nat) {h : Hd} {ks ls : List PyData} (hf : fits h ks.length) (ht : TupA ks) (hz : ks.length < 1000000) (hl : fits h ls.length) (hkl : ks.length = ls.length) (S : Store) : callN (n + 2) 3 [sw "term", .d (encN h ks), .d (.list ls)] S = .ok (.d (encN h ls)) (S ++ [.lst (.str (word h) :: (fps h ls).map (·.p))]) := by
  show toR (b3 (callN (n + 1)) [some (sw "term"), some (.d (encN h ks)), some (.d (.list ls)), none, none, none, none, none] S) = _
  unfold b3
  have ix : f2 gIx (fVar 1) (fC (.int 0)) [some (sw "term"), some (.d (encN h ks)), some (.d (.list ls)), none, none, none, none, none] S = .ok (sw (word h)) S := by
    rw [enc_fps hf]
    exact ev_f2 (ev_var rfl) rfl g_ix0
  refine ret_ok ((ev_seq (ρ1 := [some (sw "term"), some (.d (encN h ks)), some (.d (.list ls)), some (.loc S.length), none, none, none, none]) (S1 := S ++ [.lst [.str (word h)]]) (ev_asg (ev_L (ev_one ix) rfl))).trans ?_)
  refine (ev_seq (ρ1 := [some (sw "term"), some (.d (encN h ks)), some (.d (.list ls)), some (.loc S.length), some (iw (([] : List PyData).length : Int)), none, none, none]) (S1 := S ++ [.lst [.str (word h)]]) (ev_asg rfl)).trans ?_
  obtain ⟨ok, hok, hit⟩ := it_fps (ρ := [some (sw "term"), some (.d (encN h ks)), some (.d (.list ls)), some (.loc S.length), some (iw (([] : List PyData).length : Int)), none, none, none]) (S := S ++ [.lst [.str (word h)]]) hf rfl rfl
  have fl := fps_len hl
  obtain ⟨a4, a5, a6, a7, lp⟩ := with_loop n (l := S.length) hok (a0 := some (sw "term")) (a1 := some (.d (encN h ks))) (ls := ls) (fps h ks) (fps h ls) [.str (word h)] [] none none none (S ++ [.lst [.str (word h)]]) (by rw [List.getElem?_append_right (Nat.le_refl _), Nat.sub_self]; rfl) (fps_std hf ht hz) (fps_renew hf hl hkl hz) (by rw [fps_L hl]; rfl) (by rw [List.length_singleton]; omega)
  refine (ev_seq (ρ1 := [some (sw "term"), some (.d (encN h ks)), some (.d (.list ls)), some (.loc S.length), a4, a5, a6, a7]) (S1 := S ++ [.lst (.str (word h) :: (fps h ls).map (·.p))]) ?_).trans ?_
  · unfold fFor
    rw [hit]
    show forL ok _ _ _ _ _ = _
    rw [lp, List.set_append_right _ _ (Nat.le_refl _), Nat.sub_self]
    rfl
  · have tp : gTupleA [.loc S.length] (S ++ [.lst (.str (word h) :: (fps h ls).map (·.p))]) = some (.d (encN h ls), S ++ [.lst (.str (word h) :: (fps h ls).map (·.p))]) := by
      rw [enc_fps hl]
      have e : (S ++ [SO.lst (.str (word h) :: (fps h ls).map (·.p))])[S.length]? = some (.lst (.str (word h) :: (fps h ls).map (·.p))) := by
        rw [List.getElem?_append_right (Nat.le_refl _), Nat.sub_self]; rfl
      show gTuple [.loc S.length] _ = _
      unfold gTuple
      simp only [asSeq, e]
    exact ev_ret (ev_L (ev_one (ev_var rfl)) tp)
/-- with_parts -/
theorem k_wparts (n : Nat) {h : Hd} {ks ls : List PyData} (hf : fits h ks.length) (ht : TupA ks) (hz : ks.length < 1000000) (hl : fits h ls.length) (hkl : ks.length = ls.length) (S : Store) {q : PyData} (hq : q = .list ls ∨ q = .tuple ls) : callN (n + 3) 6 [.d (encN h ks), .d q] S = .ok (.d (encN h ls)) S := by
  show toR (b6 (callN (n + 2)) [some (.d (encN h ks)), some (.d q)] S) = _
  unfold b6
  have gl : fL gList (fAc (fVar 1) fA0) [some (.d (encN h ks)), some (.d q)] S = .ok (.d (.list ls)) S := by
    rcases hq with rfl | rfl <;> rfl
  have f3 : fCall 3 (callN (n + 2) 3) (fAc (fC (.str "term")) (fAc (fVar 0) (fAc (fL gList (fAc (fVar 1) fA0)) fA0))) [some (.d (encN h ks)), some (.d q)] S = .ok (.d (encN h ls)) S := by
    have := ev_cd (fa := fAc (fC (.str "term")) (fAc (fVar 0) (fAc (fL gList (fAc (fVar 1) fA0)) fA0))) (ρ := [some (.d (encN h ks)), some (.d q)]) (ws := [sw "term", .d (encN h ks), .d (.list ls)]) (S := S) (ev_ac rfl (ev_ac (ev_var rfl) (ev_one gl))) (k_winner n hf ht hz hl hkl S) rfl
    rw [List.take_left] at this
    exact this
  exact ret_ok (ev_ret f3)
end P4
end VI
set_option Elab.async false
set_option linter.all false
set_option maxRecDepth 100000
namespace VI
open PySem PySem.Spec PyProof.Rows L2
namespace P4

theorem skip_if {t : FT} {p r : FS} {ρ : Rho} {S : Store} (et : t ρ S = .ok false S) : fSeq (fIf t p fNext) r ρ S = r ρ S := ev_seq ((ev_no et).trans rfl)
theorem take_if {t : FT} {p q r : FS} {ρ : Rho} {S S1 : Store} {w : W} (et : t ρ S = .ok true S) (ep : p ρ S = .ret w S1) : fSeq (fIf t p q) r ρ S = .ret w S1 := ev_seqR ((ev_yes et).trans ep)
def sndW (w : W) : PyData := match w with
  | .d (.tuple [_, k]) => k
  | _ => .none
theorem snd_it {a : FE} {i : Nat} {ρ : Rho} {S : Store} {xs ks : List PyData} (hi : i < ρ.length) (ea : a ρ S = .ok (tu (pairs xs ks)) S) (h : xs.length = ks.length) (hz : xs.length < 1000000) :
    fLc (fItS a) (gtName i) fYes (f2 gIx (fVar i) (fC (.int 1))) [i] ρ S = .ok (.d (.list ks)) S ∧ fLcL (fItS a) (gtName i) fYes (f2 gIx (fVar i) (fC (.int 1))) [i] ρ S = .ok (.loc S.length) (S ++ [.lst ks]) := by
  obtain ⟨ok, hok, hit⟩ := it_pure ea (.inr rfl)
  have st : ∀ w ∈ (pairs xs ks).map W.d, ∀ S', Same S S' → ∃ ρ1, gtName i w (wipeR ρ [i]) = some ρ1 ∧ f2 gIx (fVar i) (fC (.int 1)) ρ1 S' = .ok (.d (sndW w)) S' := fun w m S' s => by
    obtain ⟨x, k, rfl, _, _⟩ := pairs_mem m
    refine ⟨_, rfl, ev_f2 (x := tu [x, k]) (ev_var ?_) rfl rfl⟩
    rw [List.getElem?_set_self (by show i < (ρ.set i none).length; rw [List.length_set]; exact hi)]
  have r1 := flc_all (f := sndW) hit (by rw [List.length_map, pairs_len]; omega) (fun S' _ => hok S') st
  have r2 := flcL_all (f := sndW) hit (by rw [List.length_map, pairs_len]; omega) (fun S' _ => hok S') st
  have e : ((pairs xs ks).map W.d).map sndW = ks := pairs_snd h
  rw [e] at r1 r2
  exact ⟨r1, r2⟩
theorem g_addL {xs ys : List PyData} {S : Store} (h : xs.length + ys.length ≤ 16777216) : gAddL (.d (.list xs)) (.d (.list ys)) S = some (.loc S.length, S ++ [.lst (xs ++ ys)]) := by
  unfold gAddL
  simp only [asL]
  rw [if_pos (show xs.length + ys.length ≤ lim from h)]
/-- the law's own parts -/
theorem k_lparts (n : Nat) {h : Hd} {ks : List PyData} (hf : fits h ks.length) (ht : TupA ks) (hz : ks.length < 1000000) (S : Store) : callN (n + 1) 16 [.d (encN h ks)] S = .ok (.loc S.length) (S ++ [.lst ks]) := by
  cases h with
  | leaf w d =>
    obtain ⟨h0, rfl | rfl | rfl⟩ := hf <;> rw [len0 h0] <;> kernel_rfl
  | fn x => obtain ⟨a, rfl⟩ := len1 hf; kernel_rfl
  | lt x => obtain ⟨a, b, rfl⟩ := len2 hf; kernel_rfl
  | rc xs =>
    obtain ⟨r, a, rfl, hr⟩ := lenS hf
    rw [List.length_append, List.length_singleton] at hz
    have e : encN (.rc xs) (r ++ [a]) = .tuple [.str "rec", .tuple (pairs xs r), a] := by
      show PyData.tuple [_, .tuple (pairs xs (r ++ [a])), (r ++ [a]).getD xs.length .none] = _
      rw [pairs_cut hr, last_get hr]
    rw [e]
    show toR (b16 (callN n) [some (.d (.tuple [.str "rec", .tuple (pairs xs r), a])), none, none, none] S) = _
    unfold b16
    refine ret_ok ((ev_seq (ρ1 := [some (.d (.tuple [.str "rec", .tuple (pairs xs r), a])), some (sw "rec"), none, none]) (S1 := S) (ev_asg (ev_f2 (ev_var rfl) rfl rfl))).trans <| (skip_if (by kernel_rfl)).trans <| (skip_if (by kernel_rfl)).trans <| (skip_if (by kernel_rfl)).trans <| take_if (by kernel_rfl) (ev_ret ?_))
    exact ev_f2 (snd_it (by show 2 < 4; decide) (ev_f2 (ev_var rfl) rfl rfl) hr.symm (by omega)).1 (ev_L (ws := [.d a]) (ev_one (ev_f2 (ev_var rfl) rfl rfl)) rfl) (g_addL (by rw [List.length_singleton]; omega))
  | tup => kernel_rfl
  | rd xs =>
    show toR (b16 (callN n) [some (.d (.tuple [.str "record", .tuple (pairs xs ks)])), none, none, none] S) = _
    unfold b16
    refine ret_ok ((ev_seq (ρ1 := [some (.d (.tuple [.str "record", .tuple (pairs xs ks)])), some (sw "record"), none, none]) (S1 := S) (ev_asg (ev_f2 (ev_var rfl) rfl rfl))).trans <| (skip_if (by kernel_rfl)).trans <| (skip_if (by kernel_rfl)).trans <| (skip_if (by kernel_rfl)).trans <| (skip_if (by kernel_rfl)).trans <| (skip_if (by kernel_rfl)).trans <| take_if (by kernel_rfl) (ev_ret ?_))
    exact (snd_it (by show 2 < 4; decide) (ev_f2 (ev_var rfl) rfl rfl) hf.symm (by rw [← show ks.length = xs.length from hf]; exact hz)).2
  | fd x => obtain ⟨a, rfl⟩ := len1 hf; kernel_rfl
  | mk0 x => rw [len0 hf]; kernel_rfl
  | mk1 x =>
    obtain ⟨a, rfl⟩ := len1 hf
    obtain ⟨xs, rfl⟩ := ht a (by simp)
    kernel_rfl
  | mt xs =>
    obtain ⟨a, r, rfl, hr⟩ := lenC hf
    rw [List.length_cons] at hz
    show toR (b16 (callN n) [some (.d (.tuple [.str "match", a, .tuple (pairs xs r)])), none, none, none] S) = _
    unfold b16
    refine ret_ok ((ev_seq (ρ1 := [some (.d (.tuple [.str "match", a, .tuple (pairs xs r)])), some (sw "match"), none, none]) (S1 := S) (ev_asg (ev_f2 (ev_var rfl) rfl rfl))).trans <| (skip_if (by kernel_rfl)).trans <| (skip_if (by kernel_rfl)).trans <| (skip_if (by kernel_rfl)).trans <| (skip_if (by kernel_rfl)).trans <| (skip_if (by kernel_rfl)).trans <| (skip_if (by kernel_rfl)).trans <| (skip_if (by kernel_rfl)).trans <| (skip_if (by kernel_rfl)).trans <| take_if (by kernel_rfl) (ev_ret ?_))
    exact ev_f2 (ev_L (ws := [.d a]) (ev_one (ev_f2 (ev_var rfl) rfl rfl)) rfl) (snd_it (by show 3 < 4; decide) (ev_f2 (ev_var rfl) rfl rfl) hr.symm (by omega)).1 (g_addL (by rw [List.length_singleton]; omega))
  | op x => obtain ⟨a, b, rfl⟩ := len2 hf; kernel_rfl
  | fl w =>
    rcases hf with ⟨rfl, hl⟩ | ⟨rfl, hl⟩ | ⟨rfl, hl⟩ | ⟨rfl | rfl | rfl, hl⟩
    · obtain ⟨a, b, rfl⟩ := len2 hl; kernel_rfl
    · obtain ⟨a, b, c, rfl⟩ := len3 hl; kernel_rfl
    · obtain ⟨a, b, rfl⟩ := len2 hl; kernel_rfl
    · obtain ⟨a, rfl⟩ := len1 hl; kernel_rfl
    · obtain ⟨a, rfl⟩ := len1 hl; kernel_rfl
    · obtain ⟨a, rfl⟩ := len1 hl; kernel_rfl
end P4
end VI
set_option Elab.async false
set_option linter.all false
set_option maxRecDepth 100000
namespace VI
open PySem PySem.Spec PyProof.Rows L2
namespace P4

/-- a list of parts, live or not -/
structure PL (P : W) (S : Store) (ls : List PyData) : Prop where
  sq : asSeq P S = some ls
  wk : ∃ ok, (∀ S', Same S S' → ok S') ∧ wkS P S = some ⟨ls.map W.d, ok⟩
  tx : gTupleA [P] S = some (tu ls, S)
  sl : gSlA P (some 1) none S = some (.d (.list ls.tail), S)
theorem cut1 {α : Type} (ls : List α) : cutG ls (some (1 : Int)) none = ls.tail := by
  have := cut_from ls 1
  rw [List.drop_one] at this
  exact this
theorem PL.list (S : Store) (ls : List PyData) : PL (.d (.list ls)) S ls := ⟨rfl, ⟨fun _ => True, fun _ _ => trivial, rfl⟩, rfl, by
  show some (W.d (.list (cutG ls (some 1) none)), S) = _
  rw [cut1]⟩
theorem PL.loc {S : Store} {l : Nat} {ls : List PyData} (h : S[l]? = some (.lst ls)) : PL (.loc l) S ls := by
  have sq : asSeq (.loc l) S = some ls := by simp only [asSeq, h]
  refine ⟨sq, ⟨fun S' => S'[l]? = some (.lst ls), fun S' s => s.at h, ?_⟩, ?_, ?_⟩
  · unfold wkS wkL
    simp only [h]
  · show gTuple [.loc l] S = _
    simp only [gTuple, sq]
  · show gSl (.loc l) (some 1) none S = _
    simp only [gSl, sq, cut1]
theorem zip_pairsP : ∀ {xs ks L : List PyData}, xs.length = ks.length → xs.length ≤ L.length → (List.zipWith pairW ((pairs xs ks).map W.d) (L.map W.d)).map zipP = pairs xs L
  | [], ks, L, _, _ => by cases ks <;> cases L <;> rfl
  | _ :: _, [], _, h, _ => by cases h
  | _ :: _, _ :: _, [], _, h => by simp at h
  | x :: xs, k :: ks, l :: L, h, h2 => by
    show PyData.tuple [x, l] :: (List.zipWith pairW ((pairs xs ks).map W.d) (L.map W.d)).map zipP = _
    rw [zip_pairsP (by simpa using h) (by simpa using h2)]
    rfl
theorem pair_newP {a b : FE} {i j : Nat} {ρ : Rho} {S : Store} {xs ks L : List PyData} {P : W} (hij : i ≠ j) (hi : i < ρ.length) (hj : j < ρ.length) (ea : a ρ S = .ok (tu (pairs xs ks)) S) (eb : b ρ S = .ok P S) (hP : ∃ ok, (∀ S', Same S S' → ok S') ∧ wkS P S = some ⟨L.map W.d, ok⟩) (h : xs.length = ks.length) (h2 : xs.length ≤ L.length) (hz : xs.length < 1000000) :
    fLc (fRng zipK (fAc a (fAc b fA0))) (gtTup 2 (gtCons (gtName i) (gtCons (gtName j) gtNil))) fYes (fL gTup (fAc (f2 gIx (fVar i) (fC (.int 0))) (fAc (fVar j) fA0))) [i, j] ρ S = .ok (.d (.list (pairs xs L))) S := by
  have hit : ∃ ok, (∀ S', Same S S' → ok S') ∧ fRng zipK (fAc a (fAc b fA0)) ρ S = .ok ⟨List.zipWith pairW ((pairs xs ks).map W.d) (L.map W.d), ok⟩ S := by
    unfold fRng
    rw [ev_ac ea (ev_one eb), R_ok]
    obtain ⟨ok, hok, e⟩ := hP
    refine ⟨fun S' => True ∧ ok S', fun S' s => ⟨trivial, hok S' s⟩, ?_⟩
    have e1 : wkS (tu (pairs xs ks)) S = some ⟨(pairs xs ks).map W.d, fun _ => True⟩ := rfl
    simp only [zipK, e1, e]
  obtain ⟨ok, hok, hit⟩ := hit
  have r := flc_all (g := gtTup 2 (gtCons (gtName i) (gtCons (gtName j) gtNil))) (el := fL gTup (fAc (f2 gIx (fVar i) (fC (.int 0))) (fAc (fVar j) fA0))) (vs := [i, j]) (f := zipP) hit (by rw [List.length_zipWith, List.length_map, pairs_len]; omega) hok fun w m S' s => by
    obtain ⟨x, k, l, rfl⟩ := zip_mem m
    refine ⟨((wipeR ρ [i, j]).set i (some (tu [x, k]))).set j (some (.d l)), rfl, ?_⟩
    have li : (wipeR ρ [i, j]).length = ρ.length := by
      show ((ρ.set j none).set i none).length = _
      rw [List.length_set, List.length_set]
    refine ev_L (ws := [.d x, .d l]) (ev_ac (ev_f2 (x := tu [x, k]) (ev_var ?_) rfl rfl) (ev_one (ev_var ?_))) rfl
    · rw [List.getElem?_set_ne (Ne.symm hij), List.getElem?_set_self (by rw [li]; exact hi)]
    · rw [List.getElem?_set_self (by rw [List.length_set, li]; exact hj)]
  rw [zip_pairsP h h2] at r
  exact r
theorem g_last {a : W} {r : List PyData} {x : PyData} {S : Store} (ha : asSeq a S = some (r ++ [x])) : gIx a (iw (-1)) S = some (.d x, S) := by
  show (match asSeq a S with | some xs => (atI xs (-1)).map fun x => (W.d x, S) | none => _) = _
  rw [ha]
  show ((atI (r ++ [x]) (-1)).map fun x => (W.d x, S)) = _
  have e : atI (r ++ [x]) (-1) = some x := by
    unfold atI ixN
    rw [List.length_append, List.length_singleton]
    rw [if_neg (by omega), if_pos (by omega)]
    show (r ++ [x])[(((r.length + 1 : Nat) : Int) + -1).toNat]? = _
    rw [show (((r.length + 1 : Nat) : Int) + -1).toNat = r.length by omega, List.getElem?_append_right (Nat.le_refl _), Nat.sub_self]
    rfl
  rw [e]
  rfl
theorem g_catT {xs ys : List PyData} {S : Store} (h : xs.length + ys.length ≤ 16777216) : gAdd (tu xs) (tu ys) S = some (tu (xs ++ ys), S) := by
  have e1 : asL (tu xs) S = none := rfl
  unfold gAdd
  simp only [e1, asTW, List.length_map]
  rw [if_pos (show xs.length + ys.length ≤ lim from h), ← List.map_append]
  show some (mkT ((xs ++ ys).map W.d), S) = _
  unfold mkT
  rw [show datas ((xs ++ ys).map W.d) = some (xs ++ ys) from datas_map _]
/-- the law's own with_parts -/
theorem k_lwith (n : Nat) {h : Hd} {ks ls : List PyData} (hf : fits h ks.length) (ht : TupA ks) (hz : ks.length < 1000000) (hl : fits h ls.length) (hkl : ks.length = ls.length) {S : Store} {P : W} (hP : PL P S ls) : callN (n + 1) 18 [.d (encN h ks), P] S = .ok (.d (encN h ls)) S := by
  have p0 : ∀ {a : PyData} {r : List PyData}, ls = a :: r → gIx P (iw 0) S = some (.d a, S) := fun e => g_ixA (i := 0) (e ▸ hP.sq) rfl
  have p1 : ∀ {a b : PyData} {r : List PyData}, ls = a :: b :: r → gIx P (iw 1) S = some (.d b, S) := fun e => g_ixA (i := 1) (e ▸ hP.sq) rfl
  cases h with
  | leaf w d =>
    obtain ⟨h0, rfl | rfl | rfl⟩ := hf
    · show toR (b18 (callN n) [some (.d (.tuple [.str "name", d])), some P, none, none, none, none] S) = _
      unfold b18
      refine ret_ok ((ev_seq (ρ1 := [some (.d (.tuple [.str "name", d])), some P, some (sw "name"), none, none, none]) (S1 := S) (ev_asg (ev_f2 (ev_var rfl) rfl rfl))).trans <| take_if (by kernel_rfl) (ev_ret (ev_var rfl)))
    · show toR (b18 (callN n) [some (.d (.tuple [.str "num", d])), some P, none, none, none, none] S) = _
      unfold b18
      refine ret_ok ((ev_seq (ρ1 := [some (.d (.tuple [.str "num", d])), some P, some (sw "num"), none, none, none]) (S1 := S) (ev_asg (ev_f2 (ev_var rfl) rfl rfl))).trans <| take_if (by kernel_rfl) (ev_ret (ev_var rfl)))
    · show toR (b18 (callN n) [some (.d (.tuple [.str "truth", d])), some P, none, none, none, none] S) = _
      unfold b18
      refine ret_ok ((ev_seq (ρ1 := [some (.d (.tuple [.str "truth", d])), some P, some (sw "truth"), none, none, none]) (S1 := S) (ev_asg (ev_f2 (ev_var rfl) rfl rfl))).trans <| take_if (by kernel_rfl) (ev_ret (ev_var rfl)))
  | fn x =>
    obtain ⟨a, rfl⟩ := len1 hf
    obtain ⟨b, rfl⟩ := len1 hl
    show toR (b18 (callN n) [some (.d (.tuple [.str "fn", x, a])), some P, none, none, none, none] S) = _
    unfold b18
    refine ret_ok ((ev_seq (ρ1 := [some (.d (.tuple [.str "fn", x, a])), some P, some (sw "fn"), none, none, none]) (S1 := S) (ev_asg (ev_f2 (ev_var rfl) rfl rfl))).trans <| (skip_if (by kernel_rfl)).trans <| take_if (by kernel_rfl) (ev_ret (ev_L (ws := [sw "fn", .d x, .d b]) (ev_ac rfl (ev_ac (ev_f2 (ev_var rfl) rfl rfl) (ev_one (ev_f2 (ev_var rfl) rfl (p0 rfl))))) rfl)))
  | lt x =>
    obtain ⟨a, a2, rfl⟩ := len2 hf
    obtain ⟨b, b2, rfl⟩ := len2 hl
    show toR (b18 (callN n) [some (.d (.tuple [.str "let", x, a, a2])), some P, none, none, none, none] S) = _
    unfold b18
    refine ret_ok ((ev_seq (ρ1 := [some (.d (.tuple [.str "let", x, a, a2])), some P, some (sw "let"), none, none, none]) (S1 := S) (ev_asg (ev_f2 (ev_var rfl) rfl rfl))).trans <| (skip_if (by kernel_rfl)).trans <| (skip_if (by kernel_rfl)).trans <| take_if (by kernel_rfl) (ev_ret (ev_L (ws := [sw "let", .d x, .d b, .d b2]) (ev_ac rfl (ev_ac (ev_f2 (ev_var rfl) rfl rfl) (ev_ac (ev_f2 (ev_var rfl) rfl (p0 rfl)) (ev_one (ev_f2 (ev_var rfl) rfl (p1 rfl)))))) rfl)))
  | rc xs =>
    obtain ⟨r, a, rfl, hr⟩ := lenS hf
    obtain ⟨r2, b, rfl, hr2⟩ := lenS hl
    rw [List.length_append, List.length_singleton] at hz
    have e : encN (.rc xs) (r ++ [a]) = .tuple [.str "rec", .tuple (pairs xs r), a] := by
      show PyData.tuple [_, .tuple (pairs xs (r ++ [a])), (r ++ [a]).getD xs.length .none] = _
      rw [pairs_cut hr, last_get hr]
    have e2 : encN (.rc xs) (r2 ++ [b]) = .tuple [.str "rec", .tuple (pairs xs (r2 ++ [b])), b] := by
      show PyData.tuple [_, .tuple (pairs xs (r2 ++ [b])), (r2 ++ [b]).getD xs.length .none] = _
      rw [last_get hr2]
    rw [e, e2]
    show toR (b18 (callN n) [some (.d (.tuple [.str "rec", .tuple (pairs xs r), a])), some P, none, none, none, none] S) = _
    unfold b18
    refine ret_ok ((ev_seq (ρ1 := [some (.d (.tuple [.str "rec", .tuple (pairs xs r), a])), some P, some (sw "rec"), none, none, none]) (S1 := S) (ev_asg (ev_f2 (ev_var rfl) rfl rfl))).trans <| (skip_if (by kernel_rfl)).trans <| (skip_if (by kernel_rfl)).trans <| (skip_if (by kernel_rfl)).trans <| take_if (by kernel_rfl) (ev_ret (ev_L (ws := [sw "rec", tu (pairs xs (r2 ++ [b])), .d b]) (ev_ac rfl (ev_ac (ev_L (ws := [.d (.list (pairs xs (r2 ++ [b])))]) (ev_one (pair_newP (ks := r) (by decide) (by show 3 < 6; decide) (by show 4 < 6; decide) (ev_f2 (ev_var rfl) rfl rfl) (ev_var rfl) hP.wk hr.symm (by rw [List.length_append]; omega) (by omega))) rfl) (ev_one (ev_f2 (ev_var rfl) rfl (g_last hP.sq))))) rfl)))
  | tup =>
    show toR (b18 (callN n) [some (.d (.tuple [.str "tuple", .tuple ks])), some P, none, none, none, none] S) = _
    unfold b18
    refine ret_ok ((ev_seq (ρ1 := [some (.d (.tuple [.str "tuple", .tuple ks])), some P, some (sw "tuple"), none, none, none]) (S1 := S) (ev_asg (ev_f2 (ev_var rfl) rfl rfl))).trans <| (skip_if (by kernel_rfl)).trans <| (skip_if (by kernel_rfl)).trans <| (skip_if (by kernel_rfl)).trans <| (skip_if (by kernel_rfl)).trans <| take_if (by kernel_rfl) (ev_ret (ev_L (ws := [sw "tuple", tu ls]) (ev_ac rfl (ev_one (ev_L (ws := [P]) (ev_one (ev_var rfl)) hP.tx))) rfl)))
  | rd xs =>
    show toR (b18 (callN n) [some (.d (.tuple [.str "record", .tuple (pairs xs ks)])), some P, none, none, none, none] S) = _
    unfold b18
    refine ret_ok ((ev_seq (ρ1 := [some (.d (.tuple [.str "record", .tuple (pairs xs ks)])), some P, some (sw "record"), none, none, none]) (S1 := S) (ev_asg (ev_f2 (ev_var rfl) rfl rfl))).trans <| (skip_if (by kernel_rfl)).trans <| (skip_if (by kernel_rfl)).trans <| (skip_if (by kernel_rfl)).trans <| (skip_if (by kernel_rfl)).trans <| (skip_if (by kernel_rfl)).trans <| take_if (by kernel_rfl) (ev_ret (ev_L (ws := [sw "record", tu (pairs xs ls)]) (ev_ac rfl (ev_one (ev_L (ws := [.d (.list (pairs xs ls))]) (ev_one (pair_newP (ks := ks) (by decide) (by show 3 < 6; decide) (by show 4 < 6; decide) (ev_f2 (ev_var rfl) rfl rfl) (ev_var rfl) hP.wk hf.symm (by rw [show ls.length = xs.length from hl]; exact Nat.le_refl _) (by rw [← show ks.length = xs.length from hf]; exact hz))) rfl))) rfl)))
  | fd x =>
    obtain ⟨a, rfl⟩ := len1 hf
    obtain ⟨b, rfl⟩ := len1 hl
    show toR (b18 (callN n) [some (.d (.tuple [.str "field", a, x])), some P, none, none, none, none] S) = _
    unfold b18
    refine ret_ok ((ev_seq (ρ1 := [some (.d (.tuple [.str "field", a, x])), some P, some (sw "field"), none, none, none]) (S1 := S) (ev_asg (ev_f2 (ev_var rfl) rfl rfl))).trans <| (skip_if (by kernel_rfl)).trans <| (skip_if (by kernel_rfl)).trans <| (skip_if (by kernel_rfl)).trans <| (skip_if (by kernel_rfl)).trans <| (skip_if (by kernel_rfl)).trans <| (skip_if (by kernel_rfl)).trans <| take_if (by kernel_rfl) (ev_ret (ev_L (ws := [sw "field", .d b, .d x]) (ev_ac rfl (ev_ac (ev_f2 (ev_var rfl) rfl (p0 rfl)) (ev_one (ev_f2 (ev_var rfl) rfl rfl)))) rfl)))
  | mk0 x =>
    obtain rfl := len0 hf
    obtain rfl := len0 hl
    show toR (b18 (callN n) [some (.d (.tuple [.str "make", x, .none])), some P, none, none, none, none] S) = _
    unfold b18
    refine ret_ok ((ev_seq (ρ1 := [some (.d (.tuple [.str "make", x, .none])), some P, some (sw "make"), none, none, none]) (S1 := S) (ev_asg (ev_f2 (ev_var rfl) rfl rfl))).trans <| (skip_if (by kernel_rfl)).trans <| (skip_if (by kernel_rfl)).trans <| (skip_if (by kernel_rfl)).trans <| (skip_if (by kernel_rfl)).trans <| (skip_if (by kernel_rfl)).trans <| (skip_if (by kernel_rfl)).trans <| (skip_if (by kernel_rfl)).trans <| take_if (by kernel_rfl) (ev_ret (ev_L (ws := [sw "make", .d x, .d .none]) (ev_ac rfl (ev_ac (ev_f2 (ev_var rfl) rfl rfl) (ev_one rfl))) rfl)))
  | mk1 x =>
    obtain ⟨a, rfl⟩ := len1 hf
    obtain ⟨b, rfl⟩ := len1 hl
    obtain ⟨ys, rfl⟩ := ht a (by simp)
    show toR (b18 (callN n) [some (.d (.tuple [.str "make", x, .tuple ys])), some P, none, none, none, none] S) = _
    unfold b18
    refine ret_ok ((ev_seq (ρ1 := [some (.d (.tuple [.str "make", x, .tuple ys])), some P, some (sw "make"), none, none, none]) (S1 := S) (ev_asg (ev_f2 (ev_var rfl) rfl rfl))).trans <| (skip_if (by kernel_rfl)).trans <| (skip_if (by kernel_rfl)).trans <| (skip_if (by kernel_rfl)).trans <| (skip_if (by kernel_rfl)).trans <| (skip_if (by kernel_rfl)).trans <| (skip_if (by kernel_rfl)).trans <| (skip_if (by kernel_rfl)).trans <| take_if (by kernel_rfl) (ev_ret (ev_L (ws := [sw "make", .d x, .d b]) (ev_ac rfl (ev_ac (ev_f2 (ev_var rfl) rfl rfl) (ev_one ?_))) rfl)))
    have tt : fTest (f2 gNotN (f2 gIx (fVar 0) (fC (.int 2))) (fC .none)) [some (.d (.tuple [.str "make", x, .tuple ys])), some P, some (sw "make"), none, none, none] S = .ok true S := rfl
    unfold fIfE
    rw [tt, R_ok, if_pos rfl]
    exact ev_f2 (ev_var rfl) rfl (p0 rfl)
  | mt xs =>
    obtain ⟨a, r, rfl, hr⟩ := lenC hf
    obtain ⟨b, r2, rfl, hr2⟩ := lenC hl
    rw [List.length_cons] at hz
    show toR (b18 (callN n) [some (.d (.tuple [.str "match", a, .tuple (pairs xs r)])), some P, none, none, none, none] S) = _
    unfold b18
    refine ret_ok ((ev_seq (ρ1 := [some (.d (.tuple [.str "match", a, .tuple (pairs xs r)])), some P, some (sw "match"), none, none, none]) (S1 := S) (ev_asg (ev_f2 (ev_var rfl) rfl rfl))).trans <| (skip_if (by kernel_rfl)).trans <| (skip_if (by kernel_rfl)).trans <| (skip_if (by kernel_rfl)).trans <| (skip_if (by kernel_rfl)).trans <| (skip_if (by kernel_rfl)).trans <| (skip_if (by kernel_rfl)).trans <| (skip_if (by kernel_rfl)).trans <| (skip_if (by kernel_rfl)).trans <| take_if (by kernel_rfl) (ev_ret (ev_L (ws := [sw "match", .d b, tu (pairs xs r2)]) (ev_ac rfl (ev_ac (ev_f2 (ev_var rfl) rfl (p0 rfl)) (ev_one (ev_L (ws := [.d (.list (pairs xs r2))]) (ev_one (pair_newP (ks := r) (P := .d (.list r2)) (by decide) (by show 5 < 6; decide) (by show 4 < 6; decide) (ev_f2 (ev_var rfl) rfl rfl) ?_ (PL.list S r2).wk hr.symm (by omega) (by omega))) rfl)))) rfl)))
    have s1 := hP.sl
    have v1 : fVar 1 [some (.d (.tuple [.str "match", a, .tuple (pairs xs r)])), some P, some (sw "match"), none, none, none] S = .ok P S := ev_var rfl
    simp only [fSl, v1, R_ok, fPart, fC, intOf, fNoPart, s1, lift_some, List.tail_cons]
  | op x =>
    obtain ⟨a, a2, rfl⟩ := len2 hf
    obtain ⟨b, b2, rfl⟩ := len2 hl
    show toR (b18 (callN n) [some (.d (.tuple [.str "op", x, a, a2])), some P, none, none, none, none] S) = _
    unfold b18
    refine ret_ok ((ev_seq (ρ1 := [some (.d (.tuple [.str "op", x, a, a2])), some P, some (sw "op"), none, none, none]) (S1 := S) (ev_asg (ev_f2 (ev_var rfl) rfl rfl))).trans <| (skip_if (by kernel_rfl)).trans <| (skip_if (by kernel_rfl)).trans <| (skip_if (by kernel_rfl)).trans <| (skip_if (by kernel_rfl)).trans <| (skip_if (by kernel_rfl)).trans <| (skip_if (by kernel_rfl)).trans <| (skip_if (by kernel_rfl)).trans <| (skip_if (by kernel_rfl)).trans <| (skip_if (by kernel_rfl)).trans <| ev_ret ?_)
    have tt : fTest (f2 gEq (fVar 2) (fC (.str "op"))) [some (.d (.tuple [.str "op", x, a, a2])), some P, some (sw "op"), none, none, none] S = .ok true S := by kernel_rfl
    unfold fIfE
    rw [tt, R_ok, if_pos rfl]
    exact ev_L (ws := [sw "op", .d x, .d b, .d b2]) (ev_ac rfl (ev_ac (ev_f2 (ev_var rfl) rfl rfl) (ev_ac (ev_f2 (ev_var rfl) rfl (p0 rfl)) (ev_one (ev_f2 (ev_var rfl) rfl (p1 rfl)))))) rfl
  | fl w =>
    rcases hf with ⟨rfl, hn⟩ | ⟨rfl, hn⟩ | ⟨rfl, hn⟩ | ⟨rfl | rfl | rfl, hn⟩
    · obtain ⟨a, b, rfl⟩ := len2 hn
      show toR (b18 (callN n) [some (.d (.tuple (.str "call" :: [a, b]))), some P, none, none, none, none] S) = _
      unfold b18
      refine ret_ok ((ev_seq (ρ1 := [some (.d (.tuple (.str "call" :: [a, b]))), some P, some (sw "call"), none, none, none]) (S1 := S) (ev_asg (ev_f2 (ev_var rfl) rfl rfl))).trans <| (skip_if (by kernel_rfl)).trans <| (skip_if (by kernel_rfl)).trans <| (skip_if (by kernel_rfl)).trans <| (skip_if (by kernel_rfl)).trans <| (skip_if (by kernel_rfl)).trans <| (skip_if (by kernel_rfl)).trans <| (skip_if (by kernel_rfl)).trans <| (skip_if (by kernel_rfl)).trans <| (skip_if (by kernel_rfl)).trans <| ev_ret ?_)
      have tt : fTest (f2 gEq (fVar 2) (fC (.str "op"))) [some (.d (.tuple (.str "call" :: [a, b]))), some P, some (sw "call"), none, none, none] S = .ok false S := by kernel_rfl
      unfold fIfE
      rw [tt, R_ok, if_neg (by decide)]
      exact ev_f2 (x := tu [.str "call"]) (y := tu ls) (ev_L (ws := [sw "call"]) (ev_one (ev_var rfl)) rfl) (ev_L (ws := [P]) (ev_one (ev_var rfl)) hP.tx) (g_catT (by rw [List.length_singleton]; omega))
    · obtain ⟨a, b, c, rfl⟩ := len3 hn
      show toR (b18 (callN n) [some (.d (.tuple (.str "if" :: [a, b, c]))), some P, none, none, none, none] S) = _
      unfold b18
      refine ret_ok ((ev_seq (ρ1 := [some (.d (.tuple (.str "if" :: [a, b, c]))), some P, some (sw "if"), none, none, none]) (S1 := S) (ev_asg (ev_f2 (ev_var rfl) rfl rfl))).trans <| (skip_if (by kernel_rfl)).trans <| (skip_if (by kernel_rfl)).trans <| (skip_if (by kernel_rfl)).trans <| (skip_if (by kernel_rfl)).trans <| (skip_if (by kernel_rfl)).trans <| (skip_if (by kernel_rfl)).trans <| (skip_if (by kernel_rfl)).trans <| (skip_if (by kernel_rfl)).trans <| (skip_if (by kernel_rfl)).trans <| ev_ret ?_)
      have tt : fTest (f2 gEq (fVar 2) (fC (.str "op"))) [some (.d (.tuple (.str "if" :: [a, b, c]))), some P, some (sw "if"), none, none, none] S = .ok false S := by kernel_rfl
      unfold fIfE
      rw [tt, R_ok, if_neg (by decide)]
      exact ev_f2 (x := tu [.str "if"]) (y := tu ls) (ev_L (ws := [sw "if"]) (ev_one (ev_var rfl)) rfl) (ev_L (ws := [P]) (ev_one (ev_var rfl)) hP.tx) (g_catT (by rw [List.length_singleton]; omega))
    · obtain ⟨a, b, rfl⟩ := len2 hn
      show toR (b18 (callN n) [some (.d (.tuple (.str "put" :: [a, b]))), some P, none, none, none, none] S) = _
      unfold b18
      refine ret_ok ((ev_seq (ρ1 := [some (.d (.tuple (.str "put" :: [a, b]))), some P, some (sw "put"), none, none, none]) (S1 := S) (ev_asg (ev_f2 (ev_var rfl) rfl rfl))).trans <| (skip_if (by kernel_rfl)).trans <| (skip_if (by kernel_rfl)).trans <| (skip_if (by kernel_rfl)).trans <| (skip_if (by kernel_rfl)).trans <| (skip_if (by kernel_rfl)).trans <| (skip_if (by kernel_rfl)).trans <| (skip_if (by kernel_rfl)).trans <| (skip_if (by kernel_rfl)).trans <| (skip_if (by kernel_rfl)).trans <| ev_ret ?_)
      have tt : fTest (f2 gEq (fVar 2) (fC (.str "op"))) [some (.d (.tuple (.str "put" :: [a, b]))), some P, some (sw "put"), none, none, none] S = .ok false S := by kernel_rfl
      unfold fIfE
      rw [tt, R_ok, if_neg (by decide)]
      exact ev_f2 (x := tu [.str "put"]) (y := tu ls) (ev_L (ws := [sw "put"]) (ev_one (ev_var rfl)) rfl) (ev_L (ws := [P]) (ev_one (ev_var rfl)) hP.tx) (g_catT (by rw [List.length_singleton]; omega))
    · obtain ⟨a, rfl⟩ := len1 hn
      show toR (b18 (callN n) [some (.d (.tuple (.str "new" :: [a]))), some P, none, none, none, none] S) = _
      unfold b18
      refine ret_ok ((ev_seq (ρ1 := [some (.d (.tuple (.str "new" :: [a]))), some P, some (sw "new"), none, none, none]) (S1 := S) (ev_asg (ev_f2 (ev_var rfl) rfl rfl))).trans <| (skip_if (by kernel_rfl)).trans <| (skip_if (by kernel_rfl)).trans <| (skip_if (by kernel_rfl)).trans <| (skip_if (by kernel_rfl)).trans <| (skip_if (by kernel_rfl)).trans <| (skip_if (by kernel_rfl)).trans <| (skip_if (by kernel_rfl)).trans <| (skip_if (by kernel_rfl)).trans <| (skip_if (by kernel_rfl)).trans <| ev_ret ?_)
      have tt : fTest (f2 gEq (fVar 2) (fC (.str "op"))) [some (.d (.tuple (.str "new" :: [a]))), some P, some (sw "new"), none, none, none] S = .ok false S := by kernel_rfl
      unfold fIfE
      rw [tt, R_ok, if_neg (by decide)]
      exact ev_f2 (x := tu [.str "new"]) (y := tu ls) (ev_L (ws := [sw "new"]) (ev_one (ev_var rfl)) rfl) (ev_L (ws := [P]) (ev_one (ev_var rfl)) hP.tx) (g_catT (by rw [List.length_singleton]; omega))
    · obtain ⟨a, rfl⟩ := len1 hn
      show toR (b18 (callN n) [some (.d (.tuple (.str "get" :: [a]))), some P, none, none, none, none] S) = _
      unfold b18
      refine ret_ok ((ev_seq (ρ1 := [some (.d (.tuple (.str "get" :: [a]))), some P, some (sw "get"), none, none, none]) (S1 := S) (ev_asg (ev_f2 (ev_var rfl) rfl rfl))).trans <| (skip_if (by kernel_rfl)).trans <| (skip_if (by kernel_rfl)).trans <| (skip_if (by kernel_rfl)).trans <| (skip_if (by kernel_rfl)).trans <| (skip_if (by kernel_rfl)).trans <| (skip_if (by kernel_rfl)).trans <| (skip_if (by kernel_rfl)).trans <| (skip_if (by kernel_rfl)).trans <| (skip_if (by kernel_rfl)).trans <| ev_ret ?_)
      have tt : fTest (f2 gEq (fVar 2) (fC (.str "op"))) [some (.d (.tuple (.str "get" :: [a]))), some P, some (sw "get"), none, none, none] S = .ok false S := by kernel_rfl
      unfold fIfE
      rw [tt, R_ok, if_neg (by decide)]
      exact ev_f2 (x := tu [.str "get"]) (y := tu ls) (ev_L (ws := [sw "get"]) (ev_one (ev_var rfl)) rfl) (ev_L (ws := [P]) (ev_one (ev_var rfl)) hP.tx) (g_catT (by rw [List.length_singleton]; omega))
    · obtain ⟨a, rfl⟩ := len1 hn
      show toR (b18 (callN n) [some (.d (.tuple (.str "tell" :: [a]))), some P, none, none, none, none] S) = _
      unfold b18
      refine ret_ok ((ev_seq (ρ1 := [some (.d (.tuple (.str "tell" :: [a]))), some P, some (sw "tell"), none, none, none]) (S1 := S) (ev_asg (ev_f2 (ev_var rfl) rfl rfl))).trans <| (skip_if (by kernel_rfl)).trans <| (skip_if (by kernel_rfl)).trans <| (skip_if (by kernel_rfl)).trans <| (skip_if (by kernel_rfl)).trans <| (skip_if (by kernel_rfl)).trans <| (skip_if (by kernel_rfl)).trans <| (skip_if (by kernel_rfl)).trans <| (skip_if (by kernel_rfl)).trans <| (skip_if (by kernel_rfl)).trans <| ev_ret ?_)
      have tt : fTest (f2 gEq (fVar 2) (fC (.str "op"))) [some (.d (.tuple (.str "tell" :: [a]))), some P, some (sw "tell"), none, none, none] S = .ok false S := by kernel_rfl
      unfold fIfE
      rw [tt, R_ok, if_neg (by decide)]
      exact ev_f2 (x := tu [.str "tell"]) (y := tu ls) (ev_L (ws := [sw "tell"]) (ev_one (ev_var rfl)) rfl) (ev_L (ws := [P]) (ev_one (ev_var rfl)) hP.tx) (g_catT (by rw [List.length_singleton]; omega))
end P4
end VI
set_option Elab.async false
set_option linter.all false
set_option maxRecDepth 100000
namespace VI
open PySem PySem.Spec PyProof.Rows L2
namespace P4

theorem tup_kids (t : Tm) : TupA (t.kids.map enc) := fun k m => by
  obtain ⟨u, _, rfl⟩ := List.mem_map.mp m
  obtain ⟨w, r, e⟩ := enc_tuple u
  exact ⟨_, e⟩
theorem fit_kids {t : Tm} (h : Wf t) : fits t.hd (t.kids.map enc).length := by rw [List.length_map]; exact (wf_iff.mp h).1.1
theorem few_kids {t : Tm} (h : Wf t) : (t.kids.map enc).length < 1000000 := by
  have := (wf_iff.mp h).1.2
  rw [List.length_map]
  omega
theorem t_parts (n : Nat) {t : Tm} (h : Wf t) (S : Store) : callN (n + 3) 5 [.d (enc t)] S = .ok (tu (t.kids.map enc)) S := by
  rw [enc_tm]
  exact k_parts n (fit_kids h) (tup_kids t) (few_kids h) S
theorem t_lparts (n : Nat) {t : Tm} (h : Wf t) (S : Store) : callN (n + 1) 16 [.d (enc t)] S = .ok (.loc S.length) (S ++ [.lst (t.kids.map enc)]) := by
  rw [enc_tm]
  exact k_lparts n (fit_kids h) (tup_kids t) (few_kids h) S
/-- a place as a value -/
abbrev plD (p : List Nat) : PyData := tupD (natI p)
abbrev plW (p : List Nat) : W := .d (plD p)
theorem pl_ints (p : List Nat) : ((natI p).map PyData.int).map W.d = p.map fun (i : Nat) => iw (i : Int) := by
  unfold natI
  rw [List.map_map, List.map_map]
  rfl
theorem at_loop (n : Nat) {ok : Store → Prop} (hok : ∀ S, ok S) {a0 a1 : Option W} {S : Store} : ∀ (p : List Nat) {t u : Tm} (a3 : Option W), Wf t → at_ t p = some u →
    ∃ a3', forL ok (gtName 3) (fAsg (f2 gIx (fCall 1 (callN (n + 3) 5) (fAc (fVar 2) fA0)) (fVar 3)) (gtName 2)) (p.map fun (i : Nat) => iw (i : Int)) [a0, a1, some (.d (enc t)), a3] S = .next [a0, a1, some (.d (enc u)), a3'] S
  | [], t, u, a3, _, e => by
    cases e
    exact ⟨a3, by simp only [List.map_nil, forL, if_pos (hok S)]⟩
  | i :: p, t, u, a3, h, e => by
    rw [at_] at e
    cases q : t.kids[i]? with
    | none => rw [q] at e; cases e
    | some k =>
      rw [q] at e
      obtain ⟨a3', ih⟩ := at_loop n hok (a0 := a0) (a1 := a1) (S := S) p (some (iw (i : Int))) ((wf_iff.mp h).2 k (List.mem_of_getElem? q)) e
      refine ⟨a3', ?_⟩
      have gx : gIx (tu (t.kids.map enc)) (iw (i : Int)) S = some (.d (enc k), S) := g_ixA rfl (by rw [List.getElem?_map, q]; rfl)
      have bd : fAsg (f2 gIx (fCall 1 (callN (n + 3) 5) (fAc (fVar 2) fA0)) (fVar 3)) (gtName 2) [a0, a1, some (.d (enc t)), some (iw (i : Int))] S = .next [a0, a1, some (.d (enc k)), some (iw (i : Int))] S :=
        ev_asg (ev_f2 (fcall_at (ws := [.d (enc t)]) (ev_one (ev_var rfl)) (t_parts n h S) rfl rfl) (ev_var rfl) gx)
      rw [List.map_cons, forL, if_pos (hok S)]
      show (match fAsg _ _ [a0, a1, some (.d (enc t)), some (iw (i : Int))] S with | .next ρ2 S2 => forL ok _ _ _ ρ2 S2 | .cnt ρ2 S2 => _ | .brk ρ2 S2 => _ | r => r) = _
      rw [bd]
      exact ih
theorem k_at (n : Nat) {t u : Tm} {p : List Nat} (h : Wf t) (e : at_ t p = some u) (S : Store) : callN (n + 4) 9 [.d (enc t), plW p] S = .ok (.d (enc u)) S := by
  show toR (b9 (callN (n + 3)) [some (.d (enc t)), some (plW p), none, none] S) = _
  unfold b9
  refine ret_ok ((ev_seq (ρ1 := [some (.d (enc t)), some (plW p), some (.d (enc t)), none]) (S1 := S) (ev_asg (ev_var rfl))).trans ?_)
  obtain ⟨ok, hok, hit⟩ := it_pure (a := fVar 1) (ρ := [some (.d (enc t)), some (plW p), some (.d (enc t)), none]) (S := S) (x := plD p) (ev_var rfl) (.inr rfl)
  rw [pl_ints] at hit
  obtain ⟨a3, lp⟩ := at_loop n hok (a0 := some (.d (enc t))) (a1 := some (plW p)) (S := S) p none h e
  refine (ev_seq (ρ1 := [some (.d (enc t)), some (plW p), some (.d (enc u)), a3]) (S1 := S) ?_).trans (ev_ret (ev_var rfl))
  unfold fFor
  rw [hit]
  exact lp
theorem lat_loop (n : Nat) {ok : Store → Prop} (hok : ∀ S, ok S) {a1 : Option W} {S : Store} : ∀ (p : List Nat) {t u : Tm} (a2 : Option W), Wf t → at_ t p = some u →
    ∃ a2', forL ok (gtName 2) (fAsg (f2 gIx (fCall 1 (callN (n + 1) 16) (fAc (fVar 0) fA0)) (fVar 2)) (gtName 0)) (p.map fun (i : Nat) => iw (i : Int)) [some (.d (enc t)), a1, a2] S = .next [some (.d (enc u)), a1, a2'] S
  | [], t, u, a2, _, e => by
    cases e
    exact ⟨a2, by simp only [List.map_nil, forL, if_pos (hok S)]⟩
  | i :: p, t, u, a2, h, e => by
    rw [at_] at e
    cases q : t.kids[i]? with
    | none => rw [q] at e; cases e
    | some k =>
      rw [q] at e
      obtain ⟨a2', ih⟩ := lat_loop n hok (a1 := a1) (S := S) p (some (iw (i : Int))) ((wf_iff.mp h).2 k (List.mem_of_getElem? q)) e
      refine ⟨a2', ?_⟩
      have gx : gIx (.d (.list (t.kids.map enc))) (iw (i : Int)) S = some (.d (enc k), S) := g_ixA rfl (by rw [List.getElem?_map, q]; rfl)
      have bd : fAsg (f2 gIx (fCall 1 (callN (n + 1) 16) (fAc (fVar 0) fA0)) (fVar 2)) (gtName 0) [some (.d (enc t)), a1, some (iw (i : Int))] S = .next [some (.d (enc k)), a1, some (iw (i : Int))] S :=
        ev_asg (ev_f2 (fcall_new (ws := [.d (enc t)]) (ev_one (ev_var rfl)) (t_lparts n h S) rfl) (ev_var rfl) gx)
      rw [List.map_cons, forL, if_pos (hok S)]
      show (match fAsg _ _ [some (.d (enc t)), a1, some (iw (i : Int))] S with | .next ρ2 S2 => forL ok _ _ _ ρ2 S2 | .cnt ρ2 S2 => _ | .brk ρ2 S2 => _ | r => r) = _
      rw [bd]
      exact ih
theorem k_lat (n : Nat) {t u : Tm} {p : List Nat} (h : Wf t) (e : at_ t p = some u) (S : Store) : callN (n + 2) 20 [.d (enc t), plW p] S = .ok (.d (enc u)) S := by
  show toR (b20 (callN (n + 1)) [some (.d (enc t)), some (plW p), none] S) = _
  unfold b20
  obtain ⟨ok, hok, hit⟩ := it_pure (a := fVar 1) (ρ := [some (.d (enc t)), some (plW p), none]) (S := S) (x := plD p) (ev_var rfl) (.inr rfl)
  rw [pl_ints] at hit
  obtain ⟨a2, lp⟩ := lat_loop n hok (a1 := some (plW p)) (S := S) p none h e
  refine ret_ok ((ev_seq (ρ1 := [some (.d (enc u)), some (plW p), a2]) (S1 := S) ?_).trans (ev_ret (ev_var rfl)))
  unfold fFor
  rw [hit]
  exact lp
/-! sizes -/
theorem sizes_sum : ∀ ks : List Tm, ((ks.map fun k => (size k : Int)).sum) = (sizes ks : Int)
  | [] => rfl
  | k :: ks => by
    rw [List.map_cons, List.sum_cons, sizes_sum ks, sizes]
    omega
theorem k_size17 : ∀ (n : Nat) (t : Tm), Wf t → ht t ≤ n → ∀ (j : Nat) (S : Store), callN (n + 1 + j) 17 [.d (enc t)] S = .ok (iw (size t : Int)) S
  | 0, t, _, h, _, _ => by
    cases t with
    | node hd ks => rw [ht] at h; omega
  | n + 1, t, w, h, j, S => by
    have kid : ∀ k ∈ t.kids, ∀ S', callN (n + 1 + j) 17 [.d (enc k)] S' = .ok (iw (size k : Int)) S' := fun k m S' => k_size17 n k ((wf_iff.mp w).2 k m) (by have := ht_kid m; omega) j S'
    have lp := t_lparts (n + j) w S
    rw [show n + 1 + 1 + j = (n + 1 + j) + 1 by omega]
    show toR (b17 (callN (n + 1 + j)) [some (.d (enc t)), none] S) = _
    unfold b17
    rw [show n + j + 1 = n + 1 + j by omega] at lp
    obtain ⟨ok, hok, hit⟩ := it_pure (a := fCall 1 (callN (n + 1 + j) 16) (fAc (fVar 0) fA0)) (ρ := [some (.d (enc t)), none]) (S := S) (x := .list (t.kids.map enc)) (fcall_new (ws := [.d (enc t)]) (ev_one (ev_var rfl)) lp rfl) (.inl rfl)
    have ln : (t.kids.map enc).length < 1000000 := few_kids w
    -- the sizes of the parts, as a function of the index
    have lc : fLc (fItS (fCall 1 (callN (n + 1 + j) 16) (fAc (fVar 0) fA0))) (gtName 1) fYes (fCall 1 (callN (n + 1 + j) 17) (fAc (fVar 1) fA0)) [1] [some (.d (enc t)), none] S = .ok (.d (.list (t.kids.map fun k => PyData.int (size k : Int)))) S := by
      have r := flc_all (g := gtName 1) (el := fCall 1 (callN (n + 1 + j) 17) (fAc (fVar 1) fA0)) (vs := [1]) (f := fun w => match callN (n + 1 + j) 17 [w] S with | .ok (.d x) _ => x | _ => PyData.none) hit (by rw [List.length_map]; exact ln) (fun S' _ => hok S') fun w m S' s => by
        obtain ⟨x, m1, rfl⟩ := List.mem_map.mp m
        obtain ⟨k, m2, rfl⟩ := List.mem_map.mp m1
        refine ⟨_, rfl, ?_⟩
        have e1 := kid k m2 S'
        rw [kid k m2 S]
        exact fcall_at (ws := [.d (enc k)]) (ev_one (ev_var rfl)) e1 rfl rfl
      rw [r]
      congr 3
      rw [List.map_map, List.map_map]
      refine List.map_congr_left fun k m => ?_
      show (match callN (n + 1 + j) 17 [.d (enc k)] S with | .ok (.d x) _ => x | _ => PyData.none) = _
      rw [kid k m S]
    have gs : gSum [.d (.list (t.kids.map fun k => PyData.int (size k : Int)))] S = some (iw (sizes t.kids : Int), S) := by
      show (match intsD (t.kids.map fun k => PyData.int (size k : Int)) with | some ns => some (W.d (.int ns.sum), S) | none => none) = _
      have e : t.kids.map (fun k => PyData.int (size k : Int)) = (t.kids.map fun k => (size k : Int)).map PyData.int := by rw [List.map_map]; rfl
      rw [e, intsD_map]
      show some (W.d (.int (t.kids.map fun k => (size k : Int)).sum), S) = _
      rw [sizes_sum]
    have e : (size t : Int) = 1 + (sizes t.kids : Int) := by
      cases t with
      | node hd ks => rw [size]; show ((1 + sizes ks : Nat) : Int) = 1 + (sizes ks : Int); omega
    rw [e]
    exact ret_ok (ev_ret (ev_f2 rfl (ev_L (ev_one lc) gs) rfl))
end P4
end VI
set_option Elab.async false
set_option linter.all false
set_option maxRecDepth 100000
namespace VI
open PySem PySem.Spec PyProof.Rows L2
namespace P4

/-! places as values -/
theorem eqv_ints : ∀ a b : List Int, PyData.eqvAll (a.map PyData.int) (b.map PyData.int) = decide (a = b)
  | [], [] => rfl
  | [], _ :: _ => rfl
  | _ :: _, [] => rfl
  | x :: a, y :: b => by
    show (PyData.eqv (.int x) (.int y) && PyData.eqvAll (a.map PyData.int) (b.map PyData.int)) = _
    rw [eqv_ints a b]
    show ((x == y) && decide (a = b)) = _
    by_cases h : x = y
    · subst h; simp
    · simp [h]
theorem shaped_ints (a : List Int) : SeqAt.shaped (tupD a) = true := by
  unfold SeqAt.shaped
  have l : ∀ a : List Int, PyData.canLayAll0 (a.map PyData.int) = true := fun a => by
    induction a with
    | nil => rfl
    | cons x a ih => exact ih
  have d : ∀ a : List Int, PyData.depthAll (a.map PyData.int) = 0 := fun a => by
    induction a with
    | nil => rfl
    | cons x a ih =>
      show max 0 (PyData.depthAll (a.map PyData.int)) = 0
      rw [ih]
      rfl
  have e : PyData.canLay0 (tupD a) = true := l a
  have e2 : PyData.depth (tupD a) = 1 := by show PyData.depthAll (a.map PyData.int) + 1 = 1; rw [d]
  rw [e, e2]
  rfl
theorem eq_tups (a b : List Int) {S : Store} : gEq (.d (tupD a)) (.d (tupD b)) S = some (bt (decide (a = b)), S) := by
  unfold gEq
  have e : gEqS (.d (tupD a)) (.d (tupD b)) S = none := rfl
  rw [e]
  show gEqD (.d (tupD a)) (.d (tupD b)) S = _
  unfold gEqD
  rw [asD, asD]
  show (if SeqAt.shaped (tupD a) = true ∧ SeqAt.shaped (tupD b) = true then some (bt (PyData.eqv (tupD a) (tupD b)), S) else none) = _
  rw [if_pos ⟨shaped_ints a, shaped_ints b⟩]
  show some (bt (PyData.eqvAll (a.map PyData.int) (b.map PyData.int)), S) = _
  rw [eqv_ints]
theorem ne_tups (a b : List Int) {S : Store} : gNe (.d (tupD a)) (.d (tupD b)) S = some (bt (!decide (a = b)), S) := by
  unfold gNe
  have e : gNeS (.d (tupD a)) (.d (tupD b)) S = none := rfl
  rw [e]
  show gNeD (.d (tupD a)) (.d (tupD b)) S = _
  unfold gNeD
  rw [asD, asD]
  show (if SeqAt.shaped (tupD a) = true ∧ SeqAt.shaped (tupD b) = true then some (bt (!PyData.eqv (tupD a) (tupD b)), S) else none) = _
  rw [if_pos ⟨shaped_ints a, shaped_ints b⟩]
  show some (bt (!PyData.eqvAll (a.map PyData.int) (b.map PyData.int)), S) = _
  rw [eqv_ints]
theorem natI_eq {p q : List Nat} : decide (natI p = natI q) = decide (p = q) := by
  by_cases h : p = q
  · subst h; simp
  · rw [decide_eq_false h, decide_eq_false fun e => h (natI_inj e)]
theorem eq_pl (p q : List Nat) {S : Store} : gEq (plW p) (plW q) S = some (bt (decide (p = q)), S) := by rw [eq_tups, natI_eq]
theorem ne_pl (p q : List Nat) {S : Store} : gNe (plW p) (plW q) S = some (bt (!decide (p = q)), S) := by rw [ne_tups, natI_eq]
theorem natI_append (p q : List Nat) : natI (p ++ q) = natI p ++ natI q := List.map_append
theorem cat_pl {p q : List Nat} {S : Store} (h : p.length + q.length ≤ 16777216) : gAdd (plW p) (plW q) S = some (plW (p ++ q), S) := by
  have e := g_catT (xs := (natI p).map PyData.int) (ys := (natI q).map PyData.int) (S := S) (by unfold natI; simpa using h)
  rw [← List.map_append, ← natI_append] at e
  exact e
theorem natI_take (p : List Nat) (n : Nat) : (natI p).take n = natI (p.take n) := (List.map_take ..).symm
theorem natI_drop (p : List Nat) (n : Nat) : (natI p).drop n = natI (p.drop n) := (List.map_drop ..).symm
theorem pl_take {p : List Nat} {n : Nat} {S : Store} : gSlA (plW p) none (some (n : Int)) S = some (plW (p.take n), S) := by
  show some (W.d (.tuple (cutG ((natI p).map PyData.int) none (some (n : Int)))), S) = _
  rw [cut_to, ← List.map_take, natI_take]
  rfl
theorem pl_tail {i : Nat} {p : List Nat} {S : Store} : gSlA (plW (i :: p)) (some 1) none S = some (plW p, S) := by
  show some (W.d (.tuple (cutG ((natI (i :: p)).map PyData.int) (some 1) none)), S) = _
  rw [cut1]
  rfl
theorem place_len {t : Tm} {p : List Nat} (h : p ∈ places t) : p.length ≤ ht t := by
  obtain ⟨u, e⟩ := (mem_at p).mp h
  have := at_len p e
  omega
/-! the law's places -/
def consW (i : Nat) (w : W) : PyData := match w with
  | .d (.tuple xs) => .tuple (.int (i : Int) :: xs)
  | _ => .none
theorem cons_map (i : Nat) (ps : List (List Nat)) : ((ps.map plD).map W.d).map (consW i) = (ps.map (i :: ·)).map plD := by
  rw [List.map_map, List.map_map, List.map_map]
  rfl
noncomputable abbrev plB (call : Calls) : FS := (fDrop (fMeth mExtend (fVar 1) (fAc (fLc (fItS (fCall 1 (call 19) (fAc (fVar 3) fA0))) (gtName 4) fYes (f2 gAdd (fL gTup (fAc (fVar 2) fA0)) (fVar 4)) [4]) fA0)))
theorem places_loop {m l : Nat} {ok : Store → Prop} (hok : ∀ S, ok S) {a0 a4 : Option W} : ∀ (ks : List Tm) (i : Nat) (acc : List PyData) (a2 a3 : Option W) (S : Store), S[l]? = some (.lst acc) →
    (∀ k ∈ ks, (∀ S', callN m 19 [.d (enc k)] S' = .ok (.loc S'.length) (S' ++ [.lst ((places k).map plD)])) ∧ (places k).length < 1000000 ∧ ∀ p ∈ places k, p.length < 10000) → acc.length + (placesL i ks).length < 1000000 →
    ∃ a2' a3', forL ok (gtTup 2 (gtCons (gtName 2) (gtCons (gtName 3) gtNil))) (plB (callN m)) (enumW i ((ks.map enc).map W.d)) [a0, some (.loc l), a2, a3, a4] S = .next [a0, some (.loc l), a2', a3', a4] (S.set l (.lst (acc ++ (placesL i ks).map plD)))
  | [], i, acc, a2, a3, S, hS, _, _ => ⟨a2, a3, by
    simp only [List.map_nil, enumW, forL, if_pos (hok S), placesL, List.append_nil]
    rw [set_same hS]⟩
  | k :: ks, i, acc, a2, a3, S, hS, hk, hz => by
    obtain ⟨h19, hl, hp⟩ := hk k (by simp)
    rw [placesL, List.length_append, List.length_map] at hz
    obtain ⟨b2, b3, ih⟩ := places_loop hok (m := m) (a0 := a0) (a4 := a4) ks (i + 1) (acc ++ ((places k).map (i :: ·)).map plD) (some (iw (i : Int))) (some (.d (enc k))) (S.set l (.lst (acc ++ ((places k).map (i :: ·)).map plD))) (at_set hS) (fun k' m => hk k' (by simp [m])) (by rw [List.length_append, List.length_map, List.length_map]; omega)
    refine ⟨b2, b3, ?_⟩
    have gt : gtTup 2 (gtCons (gtName 2) (gtCons (gtName 3) gtNil)) (mkT [.d (.int (i : Nat)), .d (enc k)]) [a0, some (.loc l), a2, a3, a4] = some [a0, some (.loc l), some (iw (i : Int)), some (.d (enc k)), a4] := rfl
    have lc : fLc (fItS (fCall 1 (callN m 19) (fAc (fVar 3) fA0))) (gtName 4) fYes (f2 gAdd (fL gTup (fAc (fVar 2) fA0)) (fVar 4)) [4] [a0, some (.loc l), some (iw (i : Int)), some (.d (enc k)), a4] S = .ok (.d (.list (((places k).map (i :: ·)).map plD))) S := by
      obtain ⟨ok2, hok2, hit⟩ := it_pure (a := fCall 1 (callN m 19) (fAc (fVar 3) fA0)) (ρ := [a0, some (.loc l), some (iw (i : Int)), some (.d (enc k)), a4]) (S := S) (x := .list ((places k).map plD)) (fcall_new (ws := [.d (enc k)]) (ev_one (ev_var rfl)) (h19 S) rfl) (.inl rfl)
      have r := flc_all (g := gtName 4) (el := f2 gAdd (fL gTup (fAc (fVar 2) fA0)) (fVar 4)) (vs := [4]) (f := consW i) hit (by rw [List.length_map, List.length_map]; exact hl) (fun S' _ => hok2 S') fun w m S' s => by
        obtain ⟨x, m1, rfl⟩ := List.mem_map.mp m
        obtain ⟨p, m2, rfl⟩ := List.mem_map.mp m1
        refine ⟨[a0, some (.loc l), some (iw (i : Int)), some (.d (enc k)), some (plW p)], rfl, ev_f2 (x := plW [i]) (y := plW p) (ev_L (ws := [iw (i : Int)]) (ev_one (ev_var rfl)) rfl) (ev_var rfl) ?_⟩
        exact cat_pl (p := [i]) (by have := hp p m2; rw [List.length_singleton]; omega)
      rw [cons_map] at r
      exact r
    have mx : mExtend (.loc l) [.d (.list (((places k).map (i :: ·)).map plD))] S = some (.d .none, S.set l (.lst (acc ++ ((places k).map (i :: ·)).map plD))) := by
      unfold mExtend
      simp only [hS, asL]
      rw [if_pos (by rw [List.length_map, List.length_map]; show _ ≤ 16777216; omega)]
    have bd : plB (callN m) [a0, some (.loc l), some (iw (i : Int)), some (.d (enc k)), a4] S = .next [a0, some (.loc l), some (iw (i : Int)), some (.d (enc k)), a4] (S.set l (.lst (acc ++ ((places k).map (i :: ·)).map plD))) :=
      ev_drop (ev_meth (ws := [.d (.list (((places k).map (i :: ·)).map plD))]) (ev_var rfl) (by simp only [liveB, hS]) (ev_one lc) mx)
    rw [List.map_cons, List.map_cons, enumW, forL, if_pos (hok S), gt]
    show (match plB _ _ _ with | .next ρ2 S2 => forL ok _ _ _ ρ2 S2 | .cnt ρ2 S2 => _ | .brk ρ2 S2 => _ | r => r) = _
    rw [bd]
    show forL ok _ _ _ _ _ = _
    rw [ih, List.set_set, placesL, List.map_append, List.append_assoc]
theorem k_lplaces : ∀ (n : Nat) (t : Tm), Wf t → ht t ≤ n → n < 1000 → size t < 100000 → ∀ (j : Nat) (S : Store), callN (n + 1 + j) 19 [.d (enc t)] S = .ok (.loc S.length) (S ++ [.lst ((places t).map plD)])
  | 0, t, _, h, _, _, _, _ => by
    cases t with
    | node hd ks => rw [ht] at h; omega
  | n + 1, t, w, h, hn, hs, j, S => by
    have lp := t_lparts (n + j) w (S ++ [.lst [plD []]])
    rw [show n + j + 1 = n + 1 + j by omega] at lp
    rw [show n + 1 + 1 + j = (n + 1 + j) + 1 by omega]
    show toR (b19 (callN (n + 1 + j)) [some (.d (enc t)), none, none, none, none] S) = _
    unfold b19
    refine ret_ok ((ev_seq (ρ1 := [some (.d (enc t)), some (.loc S.length), none, none, none]) (S1 := S ++ [.lst [plD []]]) (ev_asg rfl)).trans ?_)
    have hit : fRng enumK (fAc (fCall 1 (callN (n + 1 + j) 16) (fAc (fVar 0) fA0)) fA0) [some (.d (enc t)), some (.loc S.length), none, none, none] (S ++ [.lst [plD []]]) = .ok ⟨enumW 0 ((t.kids.map enc).map W.d), fun _ => True⟩ (S ++ [.lst [plD []]]) := by
      have e1 : fAc (fCall 1 (callN (n + 1 + j) 16) (fAc (fVar 0) fA0)) fA0 [some (.d (enc t)), some (.loc S.length), none, none, none] (S ++ [.lst [plD []]]) = .ok [.d (.list (t.kids.map enc))] (S ++ [.lst [plD []]]) := ev_one (fcall_new (ws := [.d (enc t)]) (ev_one (ev_var rfl)) lp rfl)
      unfold fRng
      rw [e1, R_ok]
      rfl
    have sz : sizes t.kids < 100000 := by
      cases t with
      | node hd ks => rw [size] at hs; show sizes ks < _; omega
    obtain ⟨a2, a3, lp2⟩ := places_loop (m := n + 1 + j) (l := S.length) (ok := fun _ => True) (fun _ => trivial) (a0 := some (.d (enc t))) (a4 := none) t.kids 0 [plD []] none none (S ++ [.lst [plD []]]) (by rw [List.getElem?_append_right (Nat.le_refl _), Nat.sub_self]; rfl)
      (fun k m => by
        have hk := ht_kid m
        have hks := kid_size m
        refine ⟨fun S' => k_lplaces n k ((wf_iff.mp w).2 k m) (by omega) (by omega) (by omega) j S', by rw [places_len]; omega, fun p hp => by have := place_len hp; omega⟩)
      (by rw [placesL_len, List.length_singleton]; omega)
    refine (ev_seq (ρ1 := [some (.d (enc t)), some (.loc S.length), a2, a3, none]) (S1 := S ++ [.lst ((places t).map plD)]) ?_).trans (ev_ret (ev_var rfl))
    unfold fFor
    rw [hit]
    show forL _ _ _ _ _ _ = _
    rw [lp2]
    have e : places t = [] :: placesL 0 t.kids := by cases t; rw [places]; rfl
    rw [e, List.set_append_right _ _ (Nat.le_refl _), Nat.sub_self]
    rfl
end P4
end VI
set_option Elab.async false
set_option linter.all false
set_option maxRecDepth 100000
namespace VI
open PySem PySem.Spec PyProof.Rows L2
namespace P4

/-! the law's put_at -/
theorem pl_first {i : Nat} {p : List Nat} {S : Store} : gIx (plW (i :: p)) (iw 0) S = some (iw (i : Int), S) := g_ix0
theorem set_at {S : Store} {l i : Nat} {xs : List PyData} {x : PyData} (h : S[l]? = some (.lst xs)) (hi : i < xs.length) : gSet (.loc l) (iw (i : Int)) (.d x) S = some (S.set l (.lst (xs.set i x))) := by
  unfold gSet
  simp only [h]
  have : ixN xs.length (i : Int) = some i := by
    unfold ixN
    rw [if_pos (by omega), if_pos (by omega)]
    rfl
  rw [this]
theorem k_lput : ∀ (p : List Nat) {t u q : Tm} (j : Nat) (S : Store), Wf t → Wf q → at_ t p = some u → ∃ S', callN (p.length + 2 + j) 21 [.d (enc t), plW p, .d (enc q)] S = .ok (.d (enc (put t p q))) S' ∧ S'.take S.length = S
  | [], t, u, q, j, S, _, _, _ => by
    refine ⟨S, ?_, List.take_length⟩
    rw [show ([] : List Nat).length + 2 + j = (j + 1) + 1 by simp; omega]
    show toR (b21 (callN (j + 1)) [some (.d (enc t)), some (plW []), some (.d (enc q)), none] S) = _
    unfold b21
    exact ret_ok (take_if (ev_test (ev_f2 (ev_var rfl) rfl (eq_pl [] []))) (ev_ret (ev_var rfl)))
  | i :: p, t, u, q, j, S, w, wq, e => by
    rw [at_] at e
    cases h : t.kids[i]? with
    | none => rw [h] at e; cases e
    | some k =>
      rw [h] at e
      have hi := (List.getElem?_eq_some_iff.mp h).1
      have lp := t_lparts (p.length + 1 + j) w S
      have wk := (wf_iff.mp w).2 k (List.mem_of_getElem? h)
      have eN : (i :: p).length + 2 + j = (p.length + 2 + j) + 1 := by rw [List.length_cons]; omega
      obtain ⟨S1, e1, t1⟩ := k_lput p j (S ++ [.lst (t.kids.map enc)]) wk wq e
      have wp : Wf (put k p q) := put_wf p wk wq e
      refine ⟨S ++ [.lst ((t.kids.map enc).set i (enc (put k p q)))], ?_, List.take_left⟩
      rw [eN]
      rw [show p.length + 1 + j + 1 = p.length + 2 + j by omega] at lp
      show toR (b21 (callN (p.length + 2 + j)) [some (.d (enc t)), some (plW (i :: p)), some (.d (enc q)), none] S) = _
      unfold b21
      refine ret_ok ((skip_if (ev_test (ev_f2 (ev_var rfl) rfl (eq_pl (i :: p) [])))).trans ?_)
      refine (ev_seq (ρ1 := [some (.d (enc t)), some (plW (i :: p)), some (.d (enc q)), some (.loc S.length)]) (S1 := S ++ [.lst (t.kids.map enc)]) (ev_asg ?_)).trans ?_
      · unfold fCallL
        rw [show fAc (fVar 0) fA0 [some (.d (enc t)), some (plW (i :: p)), some (.d (enc q)), none] S = .ok [.d (enc t)] S from rfl, R_ok]
        show (if ([W.d (enc t)] : List W).length = 1 then callN (p.length + 2 + j) 16 [.d (enc t)] S else R.bad) = _
        rw [if_pos (show ([W.d (enc t)] : List W).length = 1 from rfl), lp]
      have hS : (S ++ [SO.lst (t.kids.map enc)])[S.length]? = some (.lst (t.kids.map enc)) := by rw [List.getElem?_append_right (Nat.le_refl _), Nat.sub_self]; rfl
      have hk : (t.kids.map enc)[i]? = some (enc k) := by rw [List.getElem?_map, h]; rfl
      have ii_ : f2 gIx (fVar 1) (fC (.int 0)) [some (.d (enc t)), some (plW (i :: p)), some (.d (enc q)), some (.loc S.length)] (S ++ [.lst (t.kids.map enc)]) = .ok (iw (i : Int)) (S ++ [.lst (t.kids.map enc)]) := ev_f2 (ev_var rfl) rfl pl_first
      have f21 : fCall 3 (callN (p.length + 2 + j) 21) (fAc (f2 gIx (fVar 3) (f2 gIx (fVar 1) (fC (.int 0)))) (fAc (fSl gSlA (fVar 1) (fPart (fC (.int 1))) fNoPart) (fAc (fVar 2) fA0))) [some (.d (enc t)), some (plW (i :: p)), some (.d (enc q)), some (.loc S.length)] (S ++ [.lst (t.kids.map enc)]) = .ok (.d (enc (put k p q))) (S ++ [.lst (t.kids.map enc)]) := by
        have es : fSl gSlA (fVar 1) (fPart (fC (.int 1))) fNoPart [some (.d (enc t)), some (plW (i :: p)), some (.d (enc q)), some (.loc S.length)] (S ++ [.lst (t.kids.map enc)]) = .ok (plW p) (S ++ [.lst (t.kids.map enc)]) := by
          have v1 : fVar 1 [some (.d (enc t)), some (plW (i :: p)), some (.d (enc q)), some (.loc S.length)] (S ++ [.lst (t.kids.map enc)]) = .ok (plW (i :: p)) (S ++ [.lst (t.kids.map enc)]) := ev_var rfl
          simp only [fSl, v1, R_ok, fPart, fC, intOf, fNoPart, pl_tail, lift_some]
        have r := ev_cd (n := 3) (ws := [.d (enc k), plW p, .d (enc q)]) (fa := fAc (f2 gIx (fVar 3) (f2 gIx (fVar 1) (fC (.int 0)))) (fAc (fSl gSlA (fVar 1) (fPart (fC (.int 1))) fNoPart) (fAc (fVar 2) fA0))) (ρ := [some (.d (enc t)), some (plW (i :: p)), some (.d (enc q)), some (.loc S.length)]) (S := S ++ [.lst (t.kids.map enc)]) (ev_ac (ev_f2 (ev_var rfl) ii_ (g_ixA (by simp only [asSeq, hS]) hk)) (ev_ac es (ev_one (ev_var rfl)))) e1 rfl
        rw [t1] at r
        exact r
      refine (ev_seq (ρ1 := [some (.d (enc t)), some (plW (i :: p)), some (.d (enc q)), some (.loc S.length)]) (S1 := S ++ [.lst ((t.kids.map enc).set i (enc (put k p q)))]) ?_).trans ?_
      · have gs := set_at (x := enc (put k p q)) hS (i := i) (by rw [List.length_map]; exact hi)
        rw [List.set_append_right _ _ (Nat.le_refl _), Nat.sub_self] at gs
        unfold fStore
        rw [f21, toS_ok]
        rw [show fVar 3 [some (.d (enc t)), some (plW (i :: p)), some (.d (enc q)), some (.loc S.length)] (S ++ [.lst (t.kids.map enc)]) = .ok (.loc S.length) (S ++ [.lst (t.kids.map enc)]) from rfl, toS_ok, ii_, toS_ok, gs]
        rfl
      · have hS2 : (S ++ [SO.lst ((t.kids.map enc).set i (enc (put k p q)))])[S.length]? = some (.lst ((t.kids.map enc).set i (enc (put k p q)))) := by rw [List.getElem?_append_right (Nat.le_refl _), Nat.sub_self]; rfl
        have ls : ((t.kids.map enc).set i (enc (put k p q))).length = (t.kids.map enc).length := List.length_set ..
        have r := k_lwith (p.length + 1 + j) (fit_kids w) (tup_kids t) (few_kids w) (ls := (t.kids.map enc).set i (enc (put k p q))) (by rw [ls]; exact fit_kids w) ls.symm (PL.loc hS2)
        rw [← enc_tm, show p.length + 1 + j + 1 = p.length + 2 + j by omega] at r
        have en : encN t.hd ((t.kids.map enc).set i (enc (put k p q))) = enc (put t (i :: p) q) := by
          rw [put_cons h, enc_node, List.map_set]
        rw [en] at r
        exact ev_ret (fcall_at (ws := [.d (enc t), .loc S.length]) (ev_ac (ev_var rfl) (ev_one (ev_var rfl))) r rfl rfl)
end P4
end VI
set_option Elab.async false
set_option linter.all false
set_option maxRecDepth 100000
namespace VI
open PySem PySem.Spec PyProof.Rows L2
namespace P4

section
variable {S0 : Store} {a b c : SO}
theorem get0 : (S0 ++ [a, b])[S0.length]? = some a := by rw [List.getElem?_append_right (Nat.le_refl _), Nat.sub_self]; rfl
theorem get1 : (S0 ++ [a, b])[S0.length + 1]? = some b := by rw [List.getElem?_append_right (by omega), show S0.length + 1 - S0.length = 1 by omega]; rfl
theorem set0 : (S0 ++ [a, b]).set S0.length c = S0 ++ [c, b] := by rw [List.set_append_right _ _ (Nat.le_refl _), Nat.sub_self]; rfl
theorem set1 : (S0 ++ [a, b]).set (S0.length + 1) c = S0 ++ [a, c] := by rw [List.set_append_right _ _ (by omega), show S0.length + 1 - S0.length = 1 by omega]; rfl
end
theorem g_revL {xs : List PyData} {S : Store} : gRevB (.d (.list xs)) S = some (.d (.list xs.reverse), S) := by
  show gRev (.d (.list xs)) S = _
  show (datas (xs.map W.d)).map (fun ds => (W.d (.list ds.reverse), S)) = _
  rw [datas_map]
  rfl
/-- what waits, the top first -/
def encS (x : List Nat × Tm) : PyData := .tuple [plD x.1, enc x.2]
def stD (st : List (List Nat × Tm)) : List PyData := (st.map encS).reverse
def kidsAt (p : List Nat) : Nat → List Tm → List (List Nat × Tm)
  | _, [] => []
  | i, k :: ks => (p ++ [i], k) :: kidsAt p (i + 1) ks
def placesS (x : List Nat × Tm) : List (List Nat) := (places x.2).map (x.1 ++ ·)
theorem kids_flat (p : List Nat) : ∀ (ks : List Tm) (i : Nat), (kidsAt p i ks).flatMap placesS = (placesL i ks).map (p ++ ·)
  | [], i => rfl
  | k :: ks, i => by
    rw [kidsAt, placesL, List.flatMap_cons, kids_flat p ks (i + 1), List.map_append, List.map_map]
    congr 1
    show (places k).map ((p ++ [i]) ++ ·) = _
    refine List.map_congr_left fun o _ => ?_
    simp
theorem placesS_eq (p : List Nat) (t : Tm) : placesS (p, t) = p :: (kidsAt p 0 t.kids).flatMap placesS := by
  rw [kids_flat]
  cases t with
  | node h ks =>
    show (places (.node h ks)).map (p ++ ·) = _
    rw [places, List.map_cons, List.append_nil]
    rfl
def sizeS (st : List (List Nat × Tm)) : Nat := (st.map fun x => size x.2).sum
theorem kids_sizeS (p : List Nat) : ∀ (ks : List Tm) (i : Nat), sizeS (kidsAt p i ks) = sizes ks
  | [], i => rfl
  | k :: ks, i => by
    show (size k + sizeS (kidsAt p (i + 1) ks)) = _
    rw [kids_sizeS p ks (i + 1), sizes]
theorem sizeS_app (a b : List (List Nat × Tm)) : sizeS (a ++ b) = sizeS a + sizeS b := by
  unfold sizeS
  rw [List.map_append, List.sum_append]
theorem kids_mem {p : List Nat} : ∀ {ks : List Tm} {i : Nat} {x : List Nat × Tm}, x ∈ kidsAt p i ks → x.2 ∈ ks ∧ x.1.length = p.length + 1
  | [], i, x, h => by cases h
  | k :: ks, i, x, h => by
    rw [kidsAt] at h
    rcases List.mem_cons.mp h with rfl | h
    · exact ⟨by simp, by rw [List.length_append, List.length_singleton]⟩
    · have := kids_mem h
      exact ⟨by simp [this.1], this.2⟩
def rowW (p : List Nat) (w : W) : PyData := match w with
  | .d (.tuple [.int i, x]) => .tuple [.tuple ((natI p).map PyData.int ++ [.int i]), x]
  | _ => .none
theorem enum_mem : ∀ {xs : List PyData} {i : Nat} {w : W}, w ∈ enumW i (xs.map W.d) → ∃ (j : Nat) (x : PyData), w = .d (.tuple [.int (j : Int), x])
  | [], i, w, h => by cases h
  | x :: xs, i, w, h => by
    have h' : w ∈ W.d (.tuple [.int (i : Int), x]) :: enumW (i + 1) (xs.map W.d) := h
    rcases List.mem_cons.mp h' with rfl | m
    · exact ⟨i, x, rfl⟩
    · exact enum_mem m
theorem enum_len : ∀ (ws : List W) (i : Nat), (enumW i ws).length = ws.length
  | [], i => rfl
  | w :: ws, i => by rw [enumW, List.length_cons, List.length_cons, enum_len ws]
theorem rows_map (p : List Nat) : ∀ (ks : List Tm) (i : Nat), (enumW i ((ks.map enc).map W.d)).map (rowW p) = (kidsAt p i ks).map encS
  | [], i => rfl
  | k :: ks, i => by
    show rowW p (.d (.tuple [.int (i : Int), enc k])) :: (enumW (i + 1) ((ks.map enc).map W.d)).map (rowW p) = encS (p ++ [i], k) :: (kidsAt p (i + 1) ks).map encS
    rw [rows_map p ks (i + 1)]
    congr 1
    show PyData.tuple [.tuple ((natI p).map PyData.int ++ [.int i]), enc k] = .tuple [tupD (natI (p ++ [i])), enc k]
    unfold tupD
    rw [natI_append, List.map_append]
    rfl
noncomputable abbrev poB (call : Calls) : FS := (fSeq (fAsg (fMeth0 mPop (fVar 2)) (gtTup 2 (gtCons (gtName 3) (gtCons (gtName 4) gtNil)))) (fSeq (fDrop (fMeth mAppend (fVar 1) (fAc (fVar 3) fA0))) (fSeq (fAsg (fLc (fRng enumK (fAc (fCall 1 (call 5) (fAc (fVar 4) fA0)) fA0)) (gtTup 2 (gtCons (gtName 6) (gtCons (gtName 7) gtNil))) fYes (fL gTup (fAc (f2 gAdd (fVar 3) (fL gTup (fAc (fVar 6) fA0))) (fAc (fVar 7) fA0))) [6, 7]) (gtName 5)) (fDrop (fMeth mExtend (fVar 2) (fAc (f1 gRevB (fVar 5)) fA0))))))
theorem pop_last {S : Store} {l : Nat} {xs : List PyData} {x : PyData} (h : S[l]? = some (.lst (xs ++ [x]))) : mPop (.loc l) [] S = some (.d x, S.set l (.lst xs)) := by
  unfold mPop
  simp only [h]
  have e : (xs ++ [x])[(xs ++ [x]).length - 1]? = some x := by
    rw [List.length_append, List.length_singleton, Nat.add_sub_cancel, List.getElem?_append_right (Nat.le_refl _), Nat.sub_self]
    rfl
  rw [e, List.dropLast_concat]
theorem po_step (n : Nat) {S0 : Store} {F : List PyData} {p : List Nat} {t : Tm} {rest : List (List Nat × Tm)} {a0 a3 a4 a5 a6 a7 : Option W} (w : Wf t) (hp : p.length < 100000) (hF : F.length < 1000000) (hr : rest.length < 1000000) :
    ∃ b3 b4 b5 b6 b7, poB (callN (n + 3)) [a0, some (.loc S0.length), some (.loc (S0.length + 1)), a3, a4, a5, a6, a7] (S0 ++ [.lst F, .lst (stD ((p, t) :: rest))]) = .next [a0, some (.loc S0.length), some (.loc (S0.length + 1)), b3, b4, b5, b6, b7] (S0 ++ [.lst (F ++ [plD p]), .lst (stD (kidsAt p 0 t.kids ++ rest))]) := by
  have few := (wf_iff.mp w).1.2
  have eS : stD ((p, t) :: rest) = stD rest ++ [encS (p, t)] := by unfold stD; rw [List.map_cons, List.reverse_cons]
  have ed : stD (kidsAt p 0 t.kids ++ rest) = stD rest ++ ((kidsAt p 0 t.kids).map encS).reverse := by unfold stD; rw [List.map_append, List.reverse_append]
  have kl : ∀ (ks : List Tm) (i : Nat), (kidsAt p i ks).length = ks.length := fun ks => by
    induction ks with
    | nil => intro i; rfl
    | cons k ks ih => intro i; rw [kidsAt, List.length_cons, List.length_cons, ih]
  refine ⟨some (plW p), some (.d (enc t)), some (.d (.list ((kidsAt p 0 t.kids).map encS))), a6, a7, ?_⟩
  -- pop
  refine (ev_seq (ρ1 := [a0, some (.loc S0.length), some (.loc (S0.length + 1)), some (plW p), some (.d (enc t)), a5, a6, a7]) (S1 := S0 ++ [.lst F, .lst (stD rest)]) ?_).trans ?_
  · have pm := pop_last (S := S0 ++ [.lst F, .lst (stD ((p, t) :: rest))]) (l := S0.length + 1) (xs := stD rest) (x := encS (p, t)) (by rw [get1, eS])
    rw [set1] at pm
    have fm : fMeth0 mPop (fVar 2) [a0, some (.loc S0.length), some (.loc (S0.length + 1)), a3, a4, a5, a6, a7] (S0 ++ [.lst F, .lst (stD ((p, t) :: rest))]) = .ok (.d (encS (p, t))) (S0 ++ [.lst F, .lst (stD rest)]) := by
      unfold fMeth0
      rw [show fVar 2 [a0, some (.loc S0.length), some (.loc (S0.length + 1)), a3, a4, a5, a6, a7] (S0 ++ [.lst F, .lst (stD ((p, t) :: rest))]) = .ok (.loc (S0.length + 1)) (S0 ++ [.lst F, .lst (stD ((p, t) :: rest))]) from rfl, R_ok]
      rw [if_pos (by simp only [liveB, get1]), pm]
      rfl
    unfold fAsg
    rw [fm]
    rfl
  -- found
  refine (ev_seq (ρ1 := [a0, some (.loc S0.length), some (.loc (S0.length + 1)), some (plW p), some (.d (enc t)), a5, a6, a7]) (S1 := S0 ++ [.lst (F ++ [plD p]), .lst (stD rest)]) (ev_drop (ev_meth (ws := [plW p]) (z := .d .none) (ev_var rfl) (by simp only [liveB, get0]) (ev_one (ev_var rfl)) ?_))).trans ?_
  · unfold mAppend
    simp only [get0]
    rw [if_pos (show F.length < lim by show _ < 16777216; omega), set0]
  -- rows
  have lc : fLc (fRng enumK (fAc (fCall 1 (callN (n + 3) 5) (fAc (fVar 4) fA0)) fA0)) (gtTup 2 (gtCons (gtName 6) (gtCons (gtName 7) gtNil))) fYes (fL gTup (fAc (f2 gAdd (fVar 3) (fL gTup (fAc (fVar 6) fA0))) (fAc (fVar 7) fA0))) [6, 7] [a0, some (.loc S0.length), some (.loc (S0.length + 1)), some (plW p), some (.d (enc t)), a5, a6, a7] (S0 ++ [.lst (F ++ [plD p]), .lst (stD rest)]) = .ok (.d (.list ((kidsAt p 0 t.kids).map encS))) (S0 ++ [.lst (F ++ [plD p]), .lst (stD rest)]) := by
    have e1 : fAc (fCall 1 (callN (n + 3) 5) (fAc (fVar 4) fA0)) fA0 [a0, some (.loc S0.length), some (.loc (S0.length + 1)), some (plW p), some (.d (enc t)), a5, a6, a7] (S0 ++ [.lst (F ++ [plD p]), .lst (stD rest)]) = .ok [tu (t.kids.map enc)] (S0 ++ [.lst (F ++ [plD p]), .lst (stD rest)]) := ev_one (fcall_at (ws := [.d (enc t)]) (ev_one (ev_var rfl)) (t_parts n w _) rfl rfl)
    have hit : fRng enumK (fAc (fCall 1 (callN (n + 3) 5) (fAc (fVar 4) fA0)) fA0) [a0, some (.loc S0.length), some (.loc (S0.length + 1)), some (plW p), some (.d (enc t)), a5, a6, a7] (S0 ++ [.lst (F ++ [plD p]), .lst (stD rest)]) = .ok ⟨enumW 0 ((t.kids.map enc).map W.d), fun _ => True⟩ (S0 ++ [.lst (F ++ [plD p]), .lst (stD rest)]) := by
      unfold fRng
      rw [e1, R_ok]
      rfl
    have r := flc_all (g := gtTup 2 (gtCons (gtName 6) (gtCons (gtName 7) gtNil))) (el := fL gTup (fAc (f2 gAdd (fVar 3) (fL gTup (fAc (fVar 6) fA0))) (fAc (fVar 7) fA0))) (vs := [6, 7]) (f := rowW p) hit (by rw [enum_len, List.length_map, List.length_map]; omega) (fun _ _ => trivial) fun w m S' s => by
      obtain ⟨j, x, rfl⟩ := enum_mem m
      refine ⟨[a0, some (.loc S0.length), some (.loc (S0.length + 1)), some (plW p), some (.d (enc t)), a5, some (iw (j : Int)), some (.d x)], rfl, ?_⟩
      have hc : gAdd (plW p) (tu [PyData.int (j : Int)]) S' = some (tu ((natI p).map PyData.int ++ [PyData.int (j : Int)]), S') := g_catT (by
        rw [List.length_map, List.length_singleton]
        unfold natI
        rw [List.length_map]
        omega)
      exact ev_L (ws := [tu ((natI p).map PyData.int ++ [PyData.int (j : Int)]), .d x]) (ev_ac (ev_f2 (x := plW p) (y := tu [PyData.int (j : Int)]) (ev_var rfl) (ev_L (ws := [iw (j : Int)]) (ev_one (ev_var rfl)) rfl) hc) (ev_one (ev_var rfl))) rfl
    rw [rows_map] at r
    exact r
  refine (ev_seq (ρ1 := [a0, some (.loc S0.length), some (.loc (S0.length + 1)), some (plW p), some (.d (enc t)), some (.d (.list ((kidsAt p 0 t.kids).map encS))), a6, a7]) (S1 := S0 ++ [.lst (F ++ [plD p]), .lst (stD rest)]) (ev_asg lc)).trans ?_
  -- todo
  refine ev_drop (ev_meth (ws := [.d (.list ((kidsAt p 0 t.kids).map encS).reverse)]) (z := .d .none) (ev_var rfl) (by simp only [liveB, get1]) (ev_one (ev_f1 (ev_var rfl) g_revL)) ?_)
  unfold mExtend
  simp only [get1, asL]
  rw [if_pos, set1, ed]
  · rw [List.length_reverse, List.length_map, kl]
    unfold stD
    rw [List.length_reverse, List.length_map]
    show _ ≤ 16777216
    omega
theorem sizeS_len : ∀ st : List (List Nat × Tm), st.length ≤ sizeS st
  | [] => Nat.zero_le _
  | x :: st => by
    show st.length + 1 ≤ size x.2 + sizeS st
    have := sizeS_len st
    have := size_pos x.2
    omega
theorem po_loop (n : Nat) {S0 : Store} {a0 : Option W} : ∀ (fuel : Nat) (st : List (List Nat × Tm)) (F : List PyData) (a3 a4 a5 a6 a7 : Option W), sizeS st < fuel → (∀ x ∈ st, Wf x.2 ∧ x.1.length + ht x.2 < 100000) → F.length + sizeS st < 1000000 →
    ∃ b3 b4 b5 b6 b7, whileL (fTru (fVar 2)) (poB (callN (n + 3))) fuel [a0, some (.loc S0.length), some (.loc (S0.length + 1)), a3, a4, a5, a6, a7] (S0 ++ [.lst F, .lst (stD st)]) = .next [a0, some (.loc S0.length), some (.loc (S0.length + 1)), b3, b4, b5, b6, b7] (S0 ++ [.lst (F ++ (st.flatMap placesS).map plD), .lst []])
  | 0, st, F, a3, a4, a5, a6, a7, h, _, _ => absurd h (Nat.not_lt_zero _)
  | fuel + 1, [], F, a3, a4, a5, a6, a7, _, _, _ => by
    refine ⟨a3, a4, a5, a6, a7, ?_⟩
    rw [while_step]
    have tt : fTru (fVar 2) [a0, some (.loc S0.length), some (.loc (S0.length + 1)), a3, a4, a5, a6, a7] (S0 ++ [.lst F, .lst (stD [])]) = .ok false (S0 ++ [.lst F, .lst []]) := by
      show truR (.loc (S0.length + 1)) (S0 ++ [.lst F, .lst []]) = _
      unfold truR truW
      simp only [asSeq, get1]
      rfl
    rw [tt, toS_ok, if_neg (by decide)]
    simp
  | fuel + 1, (p, t) :: rest, F, a3, a4, a5, a6, a7, h, hw, hz => by
    have hs : sizeS ((p, t) :: rest) = size t + sizeS rest := rfl
    have w := hw (p, t) (by simp)
    have es : size t = 1 + sizes t.kids := by cases t; rw [size]; rfl
    have lr := sizeS_len rest
    obtain ⟨c3, c4, c5, c6, c7, st1⟩ := po_step n (S0 := S0) (F := F) (p := p) (t := t) (rest := rest) (a0 := a0) (a3 := a3) (a4 := a4) (a5 := a5) (a6 := a6) (a7 := a7) w.1 (by have := w.2; show p.length < _; have : p.length + ht t < 100000 := w.2; omega) (by omega) (by omega)
    have s2 : sizeS (kidsAt p 0 t.kids ++ rest) = sizes t.kids + sizeS rest := by rw [sizeS_app, kids_sizeS]
    obtain ⟨b3, b4, b5, b6, b7, ih⟩ := po_loop n (S0 := S0) (a0 := a0) fuel (kidsAt p 0 t.kids ++ rest) (F ++ [plD p]) c3 c4 c5 c6 c7 (by omega) (fun x m => by
      rcases List.mem_append.mp m with m | m
      · obtain ⟨m1, m2⟩ := kids_mem m
        have h2 : p.length + ht t < 100000 := w.2
        have := ht_kid m1
        exact ⟨(wf_iff.mp w.1).2 _ m1, by omega⟩
      · exact hw x (by simp [m])) (by rw [List.length_append, List.length_singleton]; omega)
    refine ⟨b3, b4, b5, b6, b7, ?_⟩
    rw [while_step]
    have tt : fTru (fVar 2) [a0, some (.loc S0.length), some (.loc (S0.length + 1)), a3, a4, a5, a6, a7] (S0 ++ [.lst F, .lst (stD ((p, t) :: rest))]) = .ok true (S0 ++ [.lst F, .lst (stD ((p, t) :: rest))]) := by
      show truR (.loc (S0.length + 1)) _ = _
      unfold truR truW
      simp only [asSeq, get1]
      unfold stD
      rw [List.map_cons, List.reverse_cons]
      simp
    rw [tt, toS_ok, if_pos rfl, st1]
    show whileL _ _ _ _ _ = _
    rw [ih, List.flatMap_append, List.flatMap_cons, placesS_eq]
    simp
theorem k_places (n : Nat) {t : Tm} (w : Wf t) (hh : ht t < 1000) (hs : size t < 100000) (S : Store) : ∃ S', callN (n + 4) 7 [.d (enc t)] S = .ok (tu ((places t).map plD)) S' ∧ S'.take S.length = S := by
  refine ⟨S ++ [.lst ((places t).map plD), .lst []], ?_, List.take_left⟩
  show toR (b7 (callN (n + 3)) [some (.d (enc t)), none, none, none, none, none, none, none] S) = _
  unfold b7
  refine ret_ok ((ev_seq (ρ1 := [some (.d (enc t)), some (.loc S.length), none, none, none, none, none, none]) (S1 := S ++ [.lst []]) (ev_asg rfl)).trans ?_)
  refine (ev_seq (ρ1 := [some (.d (enc t)), some (.loc S.length), some (.loc (S.length + 1)), none, none, none, none, none]) (S1 := S ++ [.lst [], .lst (stD [([], t)])]) ?_).trans ?_
  · refine ev_asg (ev_L (ws := [.d (encS ([], t))]) (ev_one (ev_L (ws := [plW [], .d (enc t)]) (ev_ac rfl (ev_one (ev_var rfl))) rfl)) ?_)
    show some (W.loc (S ++ [SO.lst []]).length, (S ++ [SO.lst []]) ++ [.lst [encS ([], t)]]) = _
    rw [List.length_append, List.append_assoc]
    rfl
  have s1 : sizeS [([], t)] = size t := by show size t + 0 = _; omega
  obtain ⟨b3, b4, b5, b6, b7, lp⟩ := po_loop n (S0 := S) (a0 := some (.d (enc t))) 1000000 [([], t)] [] none none none none none (by omega) (fun x m => by
    rw [List.mem_singleton.mp m]
    exact ⟨w, by show 0 + ht t < _; omega⟩) (by rw [List.length_nil]; omega)
  refine (ev_seq (ρ1 := [some (.d (enc t)), some (.loc S.length), some (.loc (S.length + 1)), b3, b4, b5, b6, b7]) (S1 := S ++ [.lst ((places t).map plD), .lst []]) ?_).trans ?_
  · rw [lp]
    have e : [([], t)].flatMap placesS = places t := by
      show (places t).map ([] ++ ·) ++ [] = _
      simp
    rw [e, List.nil_append]
  · refine ev_ret (ev_L (ws := [.loc S.length]) (ev_one (ev_var rfl)) ?_)
    show gTuple [.loc S.length] _ = _
    simp only [gTuple, asSeq, get0]
end P4
end VI
set_option Elab.async false
set_option linter.all false
set_option maxRecDepth 100000
namespace VI
open PySem PySem.Spec PyProof.Rows L2
namespace P4

/-! size_of -/
noncomputable abbrev evB (call : Calls) : FS := (fSeq (fAsg (fMeth0 mPop (fVar 3)) (gtName 4)) (fSeq (fDrop (fMeth mAppend (fVar 2) (fAc (fVar 4) fA0))) (fDrop (fMeth mExtend (fVar 3) (fAc (f1 gRevB (fCall 2 (call 2) (fAc (fVar 0) (fAc (fVar 4) fA0)))) fA0)))))
def tmD (st : List Tm) : List PyData := (st.map enc).reverse
theorem ev_step (n : Nat) {S0 : Store} {F : List PyData} {t : Tm} {rest : List Tm} {a1 a4 : Option W} (w : Wf t) (hF : F.length < 1000000) (hr : rest.length < 1000000) :
    evB (callN (n + 2)) [some (sw "term"), a1, some (.loc S0.length), some (.loc (S0.length + 1)), a4] (S0 ++ [.lst F, .lst (tmD (t :: rest))]) = .next [some (sw "term"), a1, some (.loc S0.length), some (.loc (S0.length + 1)), some (.d (enc t))] (S0 ++ [.lst (F ++ [enc t]), .lst (tmD (t.kids ++ rest))]) := by
  have few := (wf_iff.mp w).1.2
  have eS : tmD (t :: rest) = tmD rest ++ [enc t] := by unfold tmD; rw [List.map_cons, List.reverse_cons]
  have ed : tmD (t.kids ++ rest) = tmD rest ++ (t.kids.map enc).reverse := by unfold tmD; rw [List.map_append, List.reverse_append]
  refine (ev_seq (ρ1 := [some (sw "term"), a1, some (.loc S0.length), some (.loc (S0.length + 1)), some (.d (enc t))]) (S1 := S0 ++ [.lst F, .lst (tmD rest)]) ?_).trans ?_
  · have pm := pop_last (S := S0 ++ [.lst F, .lst (tmD (t :: rest))]) (l := S0.length + 1) (xs := tmD rest) (x := enc t) (by rw [get1, eS])
    rw [set1] at pm
    refine ev_asg ?_
    unfold fMeth0
    rw [show fVar 3 [some (sw "term"), a1, some (.loc S0.length), some (.loc (S0.length + 1)), a4] (S0 ++ [.lst F, .lst (tmD (t :: rest))]) = .ok (.loc (S0.length + 1)) (S0 ++ [.lst F, .lst (tmD (t :: rest))]) from rfl, R_ok]
    rw [if_pos (by simp only [liveB, get1]), pm]
    rfl
  refine (ev_seq (ρ1 := [some (sw "term"), a1, some (.loc S0.length), some (.loc (S0.length + 1)), some (.d (enc t))]) (S1 := S0 ++ [.lst (F ++ [enc t]), .lst (tmD rest)]) (ev_drop (ev_meth (ws := [.d (enc t)]) (z := .d .none) (ev_var rfl) (by simp only [liveB, get0]) (ev_one (ev_var rfl)) ?_))).trans ?_
  · unfold mAppend
    simp only [get0]
    rw [if_pos (show F.length < lim by show _ < 16777216; omega), set0]
  have inn : fCall 2 (callN (n + 2) 2) (fAc (fVar 0) (fAc (fVar 4) fA0)) [some (sw "term"), a1, some (.loc S0.length), some (.loc (S0.length + 1)), some (.d (enc t))] (S0 ++ [.lst (F ++ [enc t]), .lst (tmD rest)]) = .ok (.d (.list (t.kids.map enc))) (S0 ++ [.lst (F ++ [enc t]), .lst (tmD rest)]) := by
    have k := k_inner n (fit_kids w) (tup_kids t) (few_kids w) (S0 ++ [.lst (F ++ [enc t]), .lst (tmD rest)])
    rw [← enc_tm] at k
    exact fcall_new (ws := [sw "term", .d (enc t)]) (ev_ac (ev_var rfl) (ev_one (ev_var rfl))) k rfl
  refine ev_drop (ev_meth (ws := [.d (.list (t.kids.map enc).reverse)]) (z := .d .none) (ev_var rfl) (by simp only [liveB, get1]) (ev_one (ev_f1 inn g_revL)) ?_)
  unfold mExtend
  simp only [get1, asL]
  rw [if_pos, set1, ed]
  · rw [List.length_reverse, List.length_map]
    unfold tmD
    rw [List.length_reverse, List.length_map]
    show _ ≤ 16777216
    omega
theorem sizes_app : ∀ a b : List Tm, sizes (a ++ b) = sizes a + sizes b
  | [], b => by show sizes b = 0 + sizes b; omega
  | x :: a, b => by
    rw [List.cons_append, sizes, sizes, sizes_app a b]
    omega
theorem ev_loop (n : Nat) {S0 : Store} {a1 : Option W} : ∀ (fuel : Nat) (st : List Tm) (F : List PyData) (a4 : Option W), sizes st < fuel → (∀ x ∈ st, Wf x) → F.length + sizes st < 1000000 →
    ∃ F' b4, F'.length = F.length + sizes st ∧ whileL (fTru (fVar 3)) (evB (callN (n + 2))) fuel [some (sw "term"), a1, some (.loc S0.length), some (.loc (S0.length + 1)), a4] (S0 ++ [.lst F, .lst (tmD st)]) = .next [some (sw "term"), a1, some (.loc S0.length), some (.loc (S0.length + 1)), b4] (S0 ++ [.lst F', .lst []])
  | 0, st, F, a4, h, _, _ => absurd h (Nat.not_lt_zero _)
  | fuel + 1, [], F, a4, _, _, _ => by
    refine ⟨F, a4, rfl, ?_⟩
    rw [while_step]
    have tt : fTru (fVar 3) [some (sw "term"), a1, some (.loc S0.length), some (.loc (S0.length + 1)), a4] (S0 ++ [.lst F, .lst (tmD [])]) = .ok false (S0 ++ [.lst F, .lst []]) := by
      show truR (.loc (S0.length + 1)) (S0 ++ [.lst F, .lst []]) = _
      unfold truR truW
      simp only [asSeq, get1]
      rfl
    rw [tt, toS_ok, if_neg (by decide)]
  | fuel + 1, t :: rest, F, a4, h, hw, hz => by
    rw [sizes] at h hz
    have w := hw t (by simp)
    have es : size t = 1 + sizes t.kids := by cases t; rw [size]; rfl
    have lr := sizes_len rest
    have st1 := ev_step n (S0 := S0) (F := F) (t := t) (rest := rest) (a1 := a1) (a4 := a4) w (by omega) (by omega)
    obtain ⟨F', b4, hl, ih⟩ := ev_loop n (S0 := S0) (a1 := a1) fuel (t.kids ++ rest) (F ++ [enc t]) (some (.d (enc t))) (by rw [sizes_app]; omega) (fun x m => by
      rcases List.mem_append.mp m with m | m
      · exact (wf_iff.mp w).2 x m
      · exact hw x (by simp [m])) (by rw [List.length_append, List.length_singleton, sizes_app]; omega)
    refine ⟨F', b4, by rw [hl, List.length_append, List.length_singleton, sizes_app, sizes]; omega, ?_⟩
    rw [while_step]
    have tt : fTru (fVar 3) [some (sw "term"), a1, some (.loc S0.length), some (.loc (S0.length + 1)), a4] (S0 ++ [.lst F, .lst (tmD (t :: rest))]) = .ok true (S0 ++ [.lst F, .lst (tmD (t :: rest))]) := by
      show truR (.loc (S0.length + 1)) _ = _
      unfold truR truW
      simp only [asSeq, get1]
      unfold tmD
      rw [List.map_cons, List.reverse_cons]
      simp
    rw [tt, toS_ok, if_pos rfl, st1]
    exact ih
theorem k_size (n : Nat) {t : Tm} (w : Wf t) (hs : size t < 100000) (S : Store) : callN (n + 4) 8 [.d (enc t)] S = .ok (iw (size t : Int)) S := by
  have s1 : sizes [t] = size t := by show size t + 0 = _; omega
  obtain ⟨F', c4, hl, lp⟩ := ev_loop n (S0 := S) (a1 := some (.d (enc t))) 1000000 [t] [] none (by omega) (fun x m => by rw [List.mem_singleton.mp m]; exact w) (by rw [List.length_nil]; omega)
  have k4 : callN (n + 3) 4 [sw "term", .d (enc t)] S = .ok (.loc S.length) (S ++ [.lst F', .lst []]) := by
    show toR (b4 (callN (n + 2)) [some (sw "term"), some (.d (enc t)), none, none, none] S) = _
    unfold b4
    refine ret_ok ((ev_seq (ρ1 := [some (sw "term"), some (.d (enc t)), some (.loc S.length), none, none]) (S1 := S ++ [.lst []]) (ev_asg rfl)).trans ?_)
    refine (ev_seq (ρ1 := [some (sw "term"), some (.d (enc t)), some (.loc S.length), some (.loc (S.length + 1)), none]) (S1 := S ++ [.lst [], .lst (tmD [t])]) ?_).trans ?_
    · refine ev_asg (ev_L (ws := [.d (enc t)]) (ev_one (ev_var rfl)) ?_)
      show some (W.loc (S ++ [SO.lst []]).length, (S ++ [SO.lst []]) ++ [.lst [enc t]]) = _
      rw [List.length_append, List.append_assoc]
      rfl
    exact (ev_seq lp).trans (ev_ret (ev_var rfl))
  have f4 : fCall 2 (callN (n + 3) 4) (fAc (fC (.str "term")) (fAc (fVar 0) fA0)) [some (.d (enc t))] S = .ok (.d (.list F')) S := by
    unfold fCall
    rw [show fAc (fC (.str "term")) (fAc (fVar 0) fA0) [some (.d (enc t))] S = .ok [sw "term", .d (enc t)] S from rfl, R_ok]
    rw [if_pos (show ([sw "term", .d (enc t)] : List W).length = 2 from rfl), k4]
    have fw : frzW S.length (S ++ [.lst F', .lst []]) (.loc S.length) = some (.d (.list F')) := by
      unfold frzW
      rw [if_neg (by omega), get0]
    show (match frzW S.length (S ++ [.lst F', .lst []]) (.loc S.length) with | some w' => R.ok w' ((S ++ [SO.lst F', .lst []]).take S.length) | none => R.bad) = _
    rw [fw]
    show R.ok _ ((S ++ [SO.lst F', .lst []]).take S.length) = _
    rw [List.take_left]
  show toR (b8 (callN (n + 3)) [some (.d (enc t))] S) = _
  unfold b8
  have e : (F'.length : Int) = (size t : Int) := by rw [hl, List.length_nil, s1, Nat.zero_add]
  rw [← e]
  exact ret_ok (ev_ret (ev_L (ws := [.d (.list F')]) (ev_one f4) rfl))

/-! with_part -/
theorem at_take : ∀ (p : List Nat) {t u : Tm} (d : Nat), at_ t p = some u → ∃ v, at_ t (p.take d) = some v
  | p, t, u, d, e => by
    have h := at_append (p.take d) (p.drop d) t
    rw [List.take_append_drop, e] at h
    cases q : at_ t (p.take d) with
    | none => rw [q] at h; cases h
    | some v => exact ⟨v, rfl⟩
/-- what is at the first d steps -/
def upto (t : Tm) (p : List Nat) (d : Nat) : Tm := (at_ t (p.take d)).getD t
theorem upto_at {p : List Nat} {t u : Tm} {d : Nat} (e : at_ t p = some u) : at_ t (p.take d) = some (upto t p d) := by
  obtain ⟨v, h⟩ := at_take p d e
  unfold upto
  rw [h]
  rfl
theorem upto_kid {p : List Nat} {t u : Tm} {d i : Nat} (e : at_ t p = some u) (hi : p[d]? = some i) : (upto t p d).kids[i]? = some (upto t p (d + 1)) := by
  have h1 := upto_at (d := d) e
  have h2 := upto_at (d := d + 1) e
  have e2 : p.take (d + 1) = p.take d ++ [i] := by
    rw [List.take_add_one, hi]
    rfl
  rw [e2, at_append, h1] at h2
  have h3 : at_ (upto t p d) [i] = some (upto t p (d + 1)) := h2
  rw [at_] at h3
  cases q : (upto t p d).kids[i]? with
  | none => rw [q] at h3; cases h3
  | some k =>
    rw [q] at h3
    have h4 : some k = some (upto t p (d + 1)) := h3
    exact h4
theorem downW_succ (m : Nat) : downW ((m : Int)) (m + 1) = iw (m : Int) :: downW ((m : Int) - 1) m := by
  unfold downW
  rw [List.range_succ_eq_map, List.map_cons, List.map_map]
  congr 1
  refine List.map_congr_left fun i _ => ?_
  show iw ((m : Int) + ((i + 1 : Nat) : Int) * -1) = iw ((m : Int) - 1 + (i : Int) * -1)
  have h : (m : Int) + ((i + 1 : Nat) : Int) * -1 = (m : Int) - 1 + (i : Int) * -1 := by omega
  rw [h]
noncomputable abbrev wpB (call : Calls) : FS := (fSeq (fAsg (fL gListL (fAc (fCall 1 (call 5) (fAc (f2 gIx (fVar 3) (fVar 4)) fA0)) fA0)) (gtName 6)) (fSeq (fStore (fVar 5) (fVar 6) (f2 gIx (fVar 1) (fVar 4))) (fAsg (fCall 2 (call 6) (fAc (f2 gIx (fVar 3) (fVar 4)) (fAc (fVar 6) fA0))) (gtName 5))))
theorem wp_step0 {n m i : Nat} {pl : PyData} {ns : List PyData} {V D E : PyData} {K X A : List PyData} {a0 a2 a6 : Option W} {S : Store} (h5 : ∀ S', callN (n + 3) 5 [.d V] S' = .ok (tu K) S') (hX : X = K.set i D) (h6 : callN (n + 3) 6 [.d V, .loc S.length] (S ++ [.lst X]) = .ok (.d E) (S ++ [.lst X]))
    (hi : i < K.length) (hp : asSeq (.d pl) (S ++ [.lst K]) = some ns) (hn : ns[m]? = some (.int (i : Int))) (hA : A[m]? = some V) :
    wpB (callN (n + 3)) [a0, some (.d pl), a2, some (.d (.list A)), some (iw (m : Int)), some (.d D), a6] S = .next [a0, some (.d pl), a2, some (.d (.list A)), some (iw (m : Int)), some (.d E), some (.loc S.length)] (S ++ [.lst X]) := by
  have ix3 : ∀ (S' : Store) (b5 b6 : Option W), f2 gIx (fVar 3) (fVar 4) [a0, some (.d pl), a2, some (.d (.list A)), some (iw (m : Int)), b5, b6] S' = .ok (.d V) S' := fun S' b5 b6 => ev_f2 (ev_var rfl) (ev_var rfl) (g_ixA rfl hA)
  refine (ev_seq (ρ1 := [a0, some (.d pl), a2, some (.d (.list A)), some (iw (m : Int)), some (.d D), some (.loc S.length)]) (S1 := S ++ [.lst K]) (ev_asg (ev_L (ws := [tu K]) (ev_one (fcall_at (ws := [.d V]) (ev_one (ix3 S _ _)) (h5 S) rfl rfl)) rfl))).trans ?_
  have hS : (S ++ [SO.lst K])[S.length]? = some (.lst K) := by rw [List.getElem?_append_right (Nat.le_refl _), Nat.sub_self]; rfl
  refine (ev_seq (ρ1 := [a0, some (.d pl), a2, some (.d (.list A)), some (iw (m : Int)), some (.d D), some (.loc S.length)]) (S1 := S ++ [.lst X]) ?_).trans ?_
  · have gs := set_at (x := D) hS (i := i) hi
    rw [List.set_append_right _ _ (Nat.le_refl _), Nat.sub_self, ← hX] at gs
    have pi : f2 gIx (fVar 1) (fVar 4) [a0, some (.d pl), a2, some (.d (.list A)), some (iw (m : Int)), some (.d D), some (.loc S.length)] (S ++ [.lst K]) = .ok (iw (i : Int)) (S ++ [.lst K]) := ev_f2 (ev_var rfl) (ev_var rfl) (g_ixA hp hn)
    have v5 : fVar 5 [a0, some (.d pl), a2, some (.d (.list A)), some (iw (m : Int)), some (.d D), some (.loc S.length)] (S ++ [.lst K]) = .ok (.d D) (S ++ [.lst K]) := ev_var rfl
    have v6 : fVar 6 [a0, some (.d pl), a2, some (.d (.list A)), some (iw (m : Int)), some (.d D), some (.loc S.length)] (S ++ [.lst K]) = .ok (.loc S.length) (S ++ [.lst K]) := ev_var rfl
    unfold fStore
    rw [v5, toS_ok, v6, toS_ok, pi, toS_ok, gs]
    rfl
  · exact ev_asg (fcall_at (ws := [.d V, .loc S.length]) (ev_ac (ix3 _ _ _) (ev_one (ev_var rfl))) h6 rfl rfl)
theorem k_wparts_loc (n : Nat) {h : Hd} {ks ls : List PyData} (hf : fits h ks.length) (ht : TupA ks) (hz : ks.length < 1000000) (hl : fits h ls.length) (hkl : ks.length = ls.length) {S : Store} {l : Nat} (hS : S[l]? = some (.lst ls)) : callN (n + 3) 6 [.d (encN h ks), .loc l] S = .ok (.d (encN h ls)) S := by
  show toR (b6 (callN (n + 2)) [some (.d (encN h ks)), some (.loc l)] S) = _
  unfold b6
  have gl : gList [.loc l] S = some (.d (.list ls), S) := by
    simp only [gList, asSeq, hS]
  have f3 : fCall 3 (callN (n + 2) 3) (fAc (fC (.str "term")) (fAc (fVar 0) (fAc (fL gList (fAc (fVar 1) fA0)) fA0))) [some (.d (encN h ks)), some (.loc l)] S = .ok (.d (encN h ls)) S := by
    have r := ev_cd (fa := fAc (fC (.str "term")) (fAc (fVar 0) (fAc (fL gList (fAc (fVar 1) fA0)) fA0))) (ρ := [some (.d (encN h ks)), some (.loc l)]) (ws := [sw "term", .d (encN h ks), .d (.list ls)]) (S := S) (ev_ac rfl (ev_ac (ev_var rfl) (ev_one (ev_L (ws := [.loc l]) (ev_one (ev_var rfl)) gl)))) (k_winner n hf ht hz hl hkl S) rfl
    rw [List.take_left] at r
    exact r
  exact ret_ok (ev_ret f3)
theorem wp_step (n : Nat) {p : List Nat} {t u q : Tm} {A : List PyData} {m i : Nat} {a0 a2 a6 : Option W} {S : Store} (w : Wf t) (wq : Wf q) (e : at_ t p = some u) (hi : p[m]? = some i) (hA : A[m]? = some (enc (upto t p m))) :
    wpB (callN (n + 3)) [a0, some (plW p), a2, some (.d (.list A)), some (iw (m : Int)), some (.d (enc (put (upto t p (m + 1)) (p.drop (m + 1)) q))), a6] S = .next [a0, some (plW p), a2, some (.d (.list A)), some (iw (m : Int)), some (.d (enc (put (upto t p m) (p.drop m) q))), some (.loc S.length)] (S ++ [.lst (((upto t p m).kids.map enc).set i (enc (put (upto t p (m + 1)) (p.drop (m + 1)) q)))]) := by
  have wu := at_wf _ w (upto_at (d := m) e)
  have kk := upto_kid e hi
  have li := (List.getElem?_eq_some_iff.mp kk).1
  have hd : p.drop m = i :: p.drop (m + 1) := by
    have hm := (List.getElem?_eq_some_iff.mp hi).1
    rw [List.drop_eq_getElem_cons hm]
    congr 1
    exact (List.getElem?_eq_some_iff.mp hi).2
  have en : encN (upto t p m).hd (((upto t p m).kids.map enc).set i (enc (put (upto t p (m + 1)) (p.drop (m + 1)) q))) = enc (put (upto t p m) (p.drop m) q) := by
    rw [hd, put_cons kk, enc_node, List.map_set]
  generalize put (upto t p (m + 1)) (p.drop (m + 1)) q = q1 at en ⊢
  generalize put (upto t p m) (p.drop m) q = q2 at en ⊢
  generalize upto t p m = v at *
  have ls : ((v.kids.map enc).set i (enc q1)).length = (v.kids.map enc).length := List.length_set ..
  refine wp_step0 (pl := plD p) (ns := (natI p).map PyData.int) (V := enc v) (D := enc q1) (E := enc q2) (K := v.kids.map enc) (X := (v.kids.map enc).set i (enc q1)) (fun S' => t_parts n wu S') rfl ?_ (by rw [List.length_map]; exact li) rfl ?_ hA
  · have hS2 : (S ++ [SO.lst ((v.kids.map enc).set i (enc q1))])[S.length]? = some (.lst ((v.kids.map enc).set i (enc q1))) := by rw [List.getElem?_append_right (Nat.le_refl _), Nat.sub_self]; rfl
    have r := k_wparts_loc n (fit_kids wu) (tup_kids v) (few_kids wu) (ls := (v.kids.map enc).set i (enc q1)) (by rw [ls]; exact fit_kids wu) ls.symm hS2
    rw [← enc_tm, en] at r
    exact r
  · unfold natI
    rw [List.getElem?_map, List.getElem?_map, hi]
    rfl
theorem wp_loop (n : Nat) {p : List Nat} {t u q : Tm} {A : List PyData} {a0 a2 : Option W} {ok : Store → Prop} (hok : ∀ S, ok S) (w : Wf t) (wq : Wf q) (e : at_ t p = some u) (hA : ∀ d, d < p.length → A[d]? = some (enc (upto t p d))) : ∀ (m : Nat) (a4 a6 : Option W) (S : Store), m ≤ p.length →
    ∃ b4 b6 S', forL ok (gtName 4) (wpB (callN (n + 3))) (downW ((m : Int) - 1) m) [a0, some (plW p), a2, some (.d (.list A)), a4, some (.d (enc (put (upto t p m) (p.drop m) q))), a6] S = .next [a0, some (plW p), a2, some (.d (.list A)), b4, some (.d (enc (put t p q))), b6] S' ∧ Same S S'
  | 0, a4, a6, S, _ => by
    refine ⟨a4, a6, S, ?_, Same.refl S⟩
    have e0 : upto t p 0 = t := by unfold upto; rw [List.take_zero, at_]; rfl
    rw [e0, List.drop_zero]
    show forL ok _ _ [] _ _ = _
    rw [forL, if_pos (hok S)]
  | m + 1, a4, a6, S, h => by
    have hi : p[m]? = some p[m] := List.getElem?_eq_getElem (by omega)
    have st := wp_step n (a0 := a0) (a2 := a2) (a6 := a6) (S := S) w wq e hi (hA m (by omega))
    obtain ⟨b4, b6, S', ih, sm⟩ := wp_loop n hok w wq e hA (a0 := a0) (a2 := a2) m (some (iw (m : Int))) (some (.loc S.length)) (S ++ [.lst (((upto t p m).kids.map enc).set p[m] (enc (put (upto t p (m + 1)) (p.drop (m + 1)) q)))]) (by omega)
    refine ⟨b4, b6, S', ?_, (Same.push S _).trans sm⟩
    rw [show ((m + 1 : Nat) : Int) - 1 = (m : Int) by omega, downW_succ, forL, if_pos (hok S)]
    show (match wpB _ [a0, some (plW p), a2, some (.d (.list A)), some (iw (m : Int)), _, a6] S with | .next ρ2 S2 => forL ok _ _ _ ρ2 S2 | .cnt ρ2 S2 => _ | .brk ρ2 S2 => _ | r => r) = _
    rw [st]
    exact ih
def upW (t : Tm) (p : List Nat) (w : W) : PyData := match w with
  | .d (.int i) => enc (upto t p i.toNat)
  | _ => .none
theorem k_put (n : Nat) {p : List Nat} {t u q : Tm} (w : Wf t) (wq : Wf q) (e : at_ t p = some u) (hp : p.length < 1000) (S : Store) : ∃ S', callN (n + 5) 10 [.d (enc t), plW p, .d (enc q)] S = .ok (.d (enc (put t p q))) S' ∧ S'.take S.length = S := by
  have ln : gLen [plW p] S = some (iw (p.length : Int), S) := by
    show some (iw (((natI p).map PyData.int).length : Int), S) = _
    unfold natI
    rw [List.length_map, List.length_map]
  have hit : fRng rng1 (fAc (fL gLen (fAc (fVar 1) fA0)) fA0) [some (.d (enc t)), some (plW p), some (.d (enc q)), none, none, none, none] S = .ok ⟨rangeW 0 p.length, fun _ => True⟩ S := by
    have ea : fAc (fL gLen (fAc (fVar 1) fA0)) fA0 [some (.d (enc t)), some (plW p), some (.d (enc q)), none, none, none, none] S = .ok [nt p.length] S := ev_one (ev_L (ws := [plW p]) (ev_one (ev_var rfl)) ln)
    unfold fRng
    rw [ea, R_ok]
    exact rng_at p.length hp
  have lc := flc_all (g := gtName 4) (el := fCall 2 (callN (n + 4) 9) (fAc (fVar 0) (fAc (fSl gSlA (fVar 1) fNoPart (fPart (fVar 4))) fA0))) (vs := [4]) (f := upW t p) hit (by rw [rangeW_len]; omega) (fun _ _ => trivial) fun w' m S' s => by
    obtain ⟨i, hi⟩ := List.getElem?_of_mem m
    obtain ⟨hi2, rfl⟩ := rangeW_get hi
    refine ⟨[some (.d (enc t)), some (plW p), some (.d (enc q)), none, some (iw (0 + (i : Int))), none, none], rfl, ?_⟩
    rw [Int.zero_add]
    have es : fSl gSlA (fVar 1) fNoPart (fPart (fVar 4)) [some (.d (enc t)), some (plW p), some (.d (enc q)), none, some (iw (i : Int)), none, none] S' = .ok (plW (p.take i)) S' := by
      have v1 : fVar 1 [some (.d (enc t)), some (plW p), some (.d (enc q)), none, some (iw (i : Int)), none, none] S' = .ok (plW p) S' := ev_var rfl
      have v4 : fVar 4 [some (.d (enc t)), some (plW p), some (.d (enc q)), none, some (iw (i : Int)), none, none] S' = .ok (iw (i : Int)) S' := ev_var rfl
      simp only [fSl, v1, v4, R_ok, fPart, intOf, fNoPart, pl_take, lift_some]
    exact fcall_at (ws := [.d (enc t), plW (p.take i)]) (ev_ac (ev_var rfl) (ev_one es)) (k_at n w (upto_at e) S') rfl rfl
  have hA : ∀ d, d < p.length → ((rangeW 0 p.length).map (upW t p))[d]? = some (enc (upto t p d)) := fun d hd => by
    have hr : (rangeW 0 p.length)[d]? = some (iw (d : Int)) := by
      unfold rangeW
      rw [List.getElem?_map, List.getElem?_range hd]
      show some (iw (0 + (d : Int))) = _
      rw [Int.zero_add]
    rw [List.getElem?_map, hr]
    rfl
  generalize (rangeW 0 p.length).map (upW t p) = A at lc hA
  have hend : upto t p p.length = u := by
    have h := upto_at (d := p.length) e
    rw [List.take_length, e] at h
    exact (Option.some.inj h).symm
  obtain ⟨b4, b6, S', lp, sm⟩ := wp_loop (n + 1) (ok := fun _ => True) (fun _ => trivial) w wq e hA (a0 := some (.d (enc t))) (a2 := some (.d (enc q))) p.length none none S (Nat.le_refl _)
  have ed : put (upto t p p.length) (p.drop p.length) q = q := by rw [List.drop_length]; rfl
  rw [ed] at lp
  refine ⟨S', ?_, ?_⟩
  · show toR (b10 (callN (n + 4)) [some (.d (enc t)), some (plW p), some (.d (enc q)), none, none, none, none] S) = _
    unfold b10
    refine ret_ok ((ev_seq (ρ1 := [some (.d (enc t)), some (plW p), some (.d (enc q)), some (.d (.list A)), none, none, none]) (S1 := S) (ev_asg lc)).trans ?_)
    refine (ev_seq (ρ1 := [some (.d (enc t)), some (plW p), some (.d (enc q)), some (.d (.list A)), none, some (.d (enc q)), none]) (S1 := S) (ev_asg (ev_var rfl))).trans ?_
    refine (ev_seq (ρ1 := [some (.d (enc t)), some (plW p), some (.d (enc q)), some (.d (.list A)), b4, some (.d (enc (put t p q))), b6]) (S1 := S') ?_).trans (ev_ret (ev_var rfl))
    have hit3 : fRng rng3 (fAc (f2 gSub (fL gLen (fAc (fVar 1) fA0)) (fC (.int 1))) (fAc (f1 gNeg (fC (.int 1))) (fAc (f1 gNeg (fC (.int 1))) fA0))) [some (.d (enc t)), some (plW p), some (.d (enc q)), some (.d (.list A)), none, some (.d (enc q)), none] S = .ok ⟨downW ((p.length : Int) - 1) p.length, fun _ => True⟩ S := by
      have ea : fAc (f2 gSub (fL gLen (fAc (fVar 1) fA0)) (fC (.int 1))) (fAc (f1 gNeg (fC (.int 1))) (fAc (f1 gNeg (fC (.int 1))) fA0)) [some (.d (enc t)), some (plW p), some (.d (enc q)), some (.d (.list A)), none, some (.d (enc q)), none] S = .ok [iw ((p.length : Int) - 1), iw (-1), iw (-1)] S :=
        ev_ac (ev_f2 (ev_L (ws := [plW p]) (ev_one (ev_var rfl)) ln) rfl rfl) (ev_ac rfl (ev_one rfl))
      unfold fRng
      rw [ea, R_ok]
      have c : True ∧ fit62 ((p.length : Int) - 1) = true ∧ fit62 (-1) = true := by
        refine ⟨trivial, ?_, by decide⟩
        unfold fit62
        rw [Bool.and_eq_true, decide_eq_true_eq, decide_eq_true_eq]
        omega
      unfold rng3
      simp only
      rw [if_pos c, show ((p.length : Int) - 1 - -1).toNat = p.length by omega]
    unfold fFor
    rw [hit3]
    exact lp
  · refine List.ext_getElem? fun i => ?_
    by_cases h : i < S.length
    · rw [List.getElem?_take_of_lt h, sm.2 i h]
    · rw [List.getElem?_eq_none (by rw [List.length_take]; omega), List.getElem?_eq_none (by omega)]
end P4
end VI
set_option Elab.async false
set_option linter.all false
set_option maxRecDepth 100000
namespace VI
open PySem PySem.Spec PyProof.Rows L2
namespace P4

/-! drawing: what may change, and what stays -/
structure Wd where
  l : Nat
  I : Nat → Store → Prop
  K : Store → Store → Prop
  refl : ∀ S, K S S
  trans : ∀ {S S1 S2}, K S S1 → K S1 S2 → K S S2
  mono : ∀ {N M S}, I N S → N ≤ M → I M S
  push : ∀ {N S} (o : SO), I N S → I N (S ++ [o])
  len : ∀ {S S'}, K S S' → S'.length = S.length
  top : ∀ {N S o S'}, I N S → K (S ++ [o]) S' → S'[S.length]? = some o
  reset : ∀ {N M S S' o}, I N S → S'.length = S.length + 1 → I M S' → I M (S'.set S.length o) 
  kset : ∀ {N S o o' S'}, I N S → K (S ++ [o]) S' → K (S ++ [o']) (S'.set S.length o')
  cut : ∀ {N M S o S'}, I N S → K (S ++ [o]) S' → I M S' → I M (S'.take S.length) ∧ K S (S'.take S.length)
  tk : ∀ (n : Nat) {N S} {m : Int}, I N S → N < 2 ^ 59 → 0 < m ∧ m < 1073741824 → ∃ v S', callN (n + 1) 12 [.loc l, .d (.int m)] S = .ok (.d (.int v)) S' ∧ (0 ≤ v ∧ v < m) ∧ I (N + 1) S' ∧ K S S'
  sm : ∀ (n : Nat) {N S} {ds : List PyData}, I N S → N < 2 ^ 59 → 0 < ds.length ∧ ds.length < 1073741824 → ∃ x S', x ∈ ds ∧ callN (n + 2) 13 [.loc l, .d (.list ds)] S = .ok (.d x) S' ∧ I (N + 1) S' ∧ K S S'
  mx : ∀ (n : Nat) {N S} {ds : List PyData} {n2 : Nat} {fa : FA} {ρ : Rho}, I N S → N + ds.length < 2 ^ 59 → ds.length < 1000000 → fa ρ S = .ok [.loc l, .d (.list ds)] S → ∃ ms S', ms.Perm ds ∧ fCall 2 (callN (n + 2) 14) fa ρ S = .ok (.d (.list ms)) S' ∧ I (N + ds.length) S' ∧ K S S'
section
variable {w : Wd}
/-- an expression draws -/
def DrE (w : Wd) (e : FE) (ρ : Rho) (c : Nat) (P : PyData → Prop) : Prop := ∀ (S : Store) (N : Nat), w.I N S → N + c < 2 ^ 58 → ∃ x S', e ρ S = .ok (.d x) S' ∧ P x ∧ w.I (N + c) S' ∧ w.K S S'
def DrA (w : Wd) (e : FA) (ρ : Rho) (c : Nat) (P : List PyData → Prop) : Prop := ∀ (S : Store) (N : Nat), w.I N S → N + c < 2 ^ 58 → ∃ xs S', e ρ S = .ok (xs.map W.d) S' ∧ P xs ∧ w.I (N + c) S' ∧ w.K S S'
def DrS (w : Wd) (e : FS) (ρ : Rho) (c : Nat) (P : PyData → Prop) : Prop := ∀ (S : Store) (N : Nat), w.I N S → N + c < 2 ^ 58 → ∃ x S', e ρ S = .ret (.d x) S' ∧ P x ∧ w.I (N + c) S' ∧ w.K S S'
def DrF (w : Wd) (g : List W → Store → R W) (args : List W) (c : Nat) (P : PyData → Prop) : Prop := ∀ (S : Store) (N : Nat), w.I N S → N + c < 2 ^ 58 → ∃ x S', g (.loc w.l :: args) S = .ok (.d x) S' ∧ P x ∧ w.I (N + c) S' ∧ w.K S S'
theorem DrE.weak {e : FE} {ρ : Rho} {c c' : Nat} {P P' : PyData → Prop} (h : DrE w e ρ c P) (hc : c ≤ c') (hp : ∀ x, P x → P' x) : DrE w e ρ c' P' := fun S N hI hN => by
  obtain ⟨x, S', e1, p, i, k⟩ := h S N hI (by omega)
  exact ⟨x, S', e1, hp x p, w.mono i (by omega), k⟩
theorem DrS.weak {e : FS} {ρ : Rho} {c c' : Nat} {P P' : PyData → Prop} (h : DrS w e ρ c P) (hc : c ≤ c') (hp : ∀ x, P x → P' x) : DrS w e ρ c' P' := fun S N hI hN => by
  obtain ⟨x, S', e1, p, i, k⟩ := h S N hI (by omega)
  exact ⟨x, S', e1, hp x p, w.mono i (by omega), k⟩
theorem DrF.weak {g : List W → Store → R W} {args : List W} {c c' : Nat} {P P' : PyData → Prop} (h : DrF w g args c P) (hc : c ≤ c') (hp : ∀ x, P x → P' x) : DrF w g args c' P' := fun S N hI hN => by
  obtain ⟨x, S', e1, p, i, k⟩ := h S N hI (by omega)
  exact ⟨x, S', e1, hp x p, w.mono i (by omega), k⟩
theorem DrE.const {e : FE} {ρ : Rho} {x : PyData} (h : ∀ S, e ρ S = .ok (.d x) S) : DrE w e ρ 0 (· = x) := fun S N hI _ => ⟨x, S, h S, rfl, hI, w.refl S⟩
theorem DrA.nil {ρ : Rho} : DrA w fA0 ρ 0 (· = []) := fun S N hI _ => ⟨[], S, rfl, rfl, hI, w.refl S⟩
theorem DrA.cons {e : FE} {r : FA} {ρ : Rho} {c1 c2 : Nat} {P : PyData → Prop} {Q : List PyData → Prop} (h1 : DrE w e ρ c1 P) (h2 : DrA w r ρ c2 Q) : DrA w (fAc e r) ρ (c1 + c2) (fun xs => ∃ x ys, xs = x :: ys ∧ P x ∧ Q ys) := fun S N hI hN => by
  obtain ⟨x, S1, e1, p1, i1, k1⟩ := h1 S N hI (by omega)
  obtain ⟨ys, S2, e2, p2, i2, k2⟩ := h2 S1 (N + c1) i1 (by omega)
  exact ⟨x :: ys, S2, ev_ac e1 e2, ⟨x, ys, rfl, p1, p2⟩, by rw [← Nat.add_assoc]; exact i2, w.trans k1 k2⟩
theorem DrE.tup {fa : FA} {ρ : Rho} {c : Nat} {P : List PyData → Prop} (h : DrA w fa ρ c P) (hz : ∀ xs, P xs → xs.length ≤ 16777216) : DrE w (fL gTup fa) ρ c (fun x => ∃ xs, x = .tuple xs ∧ P xs) := fun S N hI hN => by
  obtain ⟨xs, S1, e1, p1, i1, k1⟩ := h S N hI hN
  refine ⟨.tuple xs, S1, ev_L e1 ?_, ⟨xs, rfl, p1⟩, i1, k1⟩
  unfold gTup
  rw [List.length_map, if_pos (show xs.length ≤ lim from hz xs p1)]
  unfold mkT
  rw [datas_map]
theorem DrE.lst {fa : FA} {ρ : Rho} {c : Nat} {P : List PyData → Prop} (h : DrA w fa ρ c P) (hz : ∀ xs, P xs → xs.length ≤ 16777216) : DrE w (fL gLst fa) ρ c (fun x => ∃ xs, x = .list xs ∧ P xs) := fun S N hI hN => by
  obtain ⟨xs, S1, e1, p1, i1, k1⟩ := h S N hI hN
  refine ⟨.list xs, S1, ev_L e1 ?_, ⟨xs, rfl, p1⟩, i1, k1⟩
  unfold gLst
  rw [List.length_map, if_pos (show xs.length ≤ lim from hz xs p1), datas_map]
  rfl
theorem DrE.call {n : Nat} {g : List W → Store → R W} {fa : FA} {ρ : Rho} {c : Nat} {args : List W} {P : PyData → Prop} (h : DrF w g args c P) (ha : ∀ S, fa ρ S = .ok (.loc w.l :: args) S) (hn : args.length + 1 = n) : DrE w (fCall n g fa) ρ c P := fun S N hI hN => by
  obtain ⟨x, S1, e1, p1, i1, k1⟩ := h S N hI hN
  exact ⟨x, S1, fcall_at (ha S) e1 (w.len k1) (by rw [List.length_cons]; exact hn), p1, i1, k1⟩
theorem DrE.take (n : Nat) {ρ : Rho} {m : Int} {e : FE} (h0 : ρ[0]? = some (some (.loc w.l))) (he : ∀ S, e ρ S = .ok (iw m) S) (hm : 0 < m ∧ m < 1073741824) : DrE w (fCall 2 (callN (n + 1) 12) (fAc (fVar 0) (fAc e fA0))) ρ 1 (fun x => ∃ v : Int, x = .int v ∧ 0 ≤ v ∧ v < m) := fun S N hI hN => by
  obtain ⟨v, S1, e1, p1, i1, k1⟩ := w.tk n hI (by omega) hm
  exact ⟨.int v, S1, fcall_at (ws := [.loc w.l, iw m]) (ev_ac (ev_var h0) (ev_one (he S))) e1 (w.len k1) rfl, ⟨v, rfl, p1⟩, i1, k1⟩
/-- one of a drawn list -/
theorem DrE.one (n : Nat) {ρ : Rho} {e : FE} {c : Nat} {P : PyData → Prop} {Q : PyData → Prop} (h0 : ρ[0]? = some (some (.loc w.l))) (he : DrE w e ρ c P) (hp : ∀ x, P x → ∃ ds, x = .list ds ∧ (0 < ds.length ∧ ds.length < 1000) ∧ ∀ y ∈ ds, Q y) : DrE w (fCall 2 (callN (n + 2) 13) (fAc (fVar 0) (fAc e fA0))) ρ (c + 1) Q := fun S N hI hN => by
  obtain ⟨x, S1, e1, p1, i1, k1⟩ := he S N hI (by omega)
  obtain ⟨ds, rfl, hd, hq⟩ := hp x p1
  obtain ⟨y, S2, m2, e2, i2, k2⟩ := w.sm n (ds := ds) i1 (by omega) (by omega)
  exact ⟨y, S2, fcall_at (ws := [.loc w.l, .d (.list ds)]) (ev_ac (ev_var h0) (ev_one e1)) e2 (w.len k2) rfl, hq y m2, by rw [← Nat.add_assoc]; exact i2, w.trans k1 k2⟩
theorem DrE.oneC (n : Nat) {ρ : Rho} {e : FE} {ds : List PyData} {Q : PyData → Prop} (h0 : ρ[0]? = Option.some (Option.some (.loc w.l))) (he : ∀ S, e ρ S = .ok (.d (.list ds)) S) (hd : 0 < ds.length ∧ ds.length < 1000) (hq : ∀ y ∈ ds, Q y) : DrE w (fCall 2 (callN (n + 2) 13) (fAc (fVar 0) (fAc e fA0))) ρ 1 Q :=
  DrE.one n h0 (DrE.const he) fun x p => ⟨ds, p, hd, hq⟩
theorem DrS.ret {e : FE} {ρ : Rho} {c : Nat} {P : PyData → Prop} (h : DrE w e ρ c P) : DrS w (fRet e) ρ c P := fun S N hI hN => by
  obtain ⟨x, S1, e1, p⟩ := h S N hI hN
  exact ⟨x, S1, ev_ret e1, p⟩
theorem DrS.yes {t : FT} {p r : FS} {ρ : Rho} {c : Nat} {P : PyData → Prop} (ht : ∀ S, t ρ S = .ok true S) (h : DrS w p ρ c P) : DrS w (fSeq (fIf t p fNext) r) ρ c P := fun S N hI hN => by
  obtain ⟨x, S1, e1, p⟩ := h S N hI hN
  exact ⟨x, S1, take_if (ht S) e1, p⟩
theorem DrS.no {t : FT} {p r : FS} {ρ : Rho} {c : Nat} {P : PyData → Prop} (ht : ∀ S, t ρ S = .ok false S) (h : DrS w r ρ c P) : DrS w (fSeq (fIf t p fNext) r) ρ c P := fun S N hI hN => by
  obtain ⟨x, S1, e1, p⟩ := h S N hI hN
  exact ⟨x, S1, (skip_if (ht S)).trans e1, p⟩
theorem DrS.asg {e : FE} {i : Nat} {r : FS} {ρ : Rho} {c1 c2 : Nat} {P Q : PyData → Prop} (h1 : DrE w e ρ c1 P) (h2 : ∀ x, P x → DrS w r (ρ.set i (Option.some (.d x))) c2 Q) : DrS w (fSeq (fAsg e (gtName i)) r) ρ (c1 + c2) Q := fun S N hI hN => by
  obtain ⟨x, S1, e1, p1, i1, k1⟩ := h1 S N hI (by omega)
  obtain ⟨y, S2, e2, p2, i2, k2⟩ := h2 x p1 S1 (N + c1) i1 (by omega)
  exact ⟨y, S2, (ev_seq (ev_asg e1)).trans e2, p2, by rw [← Nat.add_assoc]; exact i2, w.trans k1 k2⟩
theorem DrF.of {g : List W → Store → R W} {args : List W} {b : FS} {k c : Nat} {P : PyData → Prop} (hg : ∀ S, g (.loc w.l :: args) S = toR (b (startR k (.loc w.l :: args)) S)) (h : DrS w b (startR k (.loc w.l :: args)) c P) : DrF w g args c P := fun S N hI hN => by
  obtain ⟨x, S1, e1, p⟩ := h S N hI hN
  exact ⟨x, S1, by rw [hg]; exact ret_ok e1, p⟩
theorem DrE.ife {t : FT} {a b : FE} {ρ : Rho} {c : Nat} {P : PyData → Prop} {k : Bool} (ht : ∀ S, t ρ S = .ok k S) (ha : k = true → DrE w a ρ c P) (hb : k = false → DrE w b ρ c P) : DrE w (fIfE t a b) ρ c P := fun S N hI hN => by
  unfold fIfE
  rw [ht S, R_ok]
  cases k with
  | true => rw [if_pos rfl]; exact ha rfl S N hI hN
  | false => rw [if_neg (by decide)]; exact hb rfl S N hI hN
/-- a comprehension whose parts draw -/
theorem lc_draw {ok : Store → Prop} (hok : ∀ S, ok S) {g : FG} {el : FE} {ρ : Rho} {c : Nat} {P : PyData → Prop} : ∀ (ws : List W) (acc : List PyData) (S0 S : Store) (N0 N : Nat), w.I N0 S0 → S.length = S0.length + 1 → w.I N S → S[S0.length]? = some (.lst acc) → w.K (S0 ++ [.lst acc]) S → acc.length + ws.length < 1000000 → N + ws.length * c < 2 ^ 58 →
    (∀ x ∈ ws, ∃ ρ1, g x ρ = some ρ1 ∧ DrE w el ρ1 c P) →
    ∃ xs S', lcL ok g fYes el ρ S0.length ws S = .ok (.loc S0.length) S' ∧ S'[S0.length]? = some (.lst (acc ++ xs)) ∧ xs.length = ws.length ∧ (∀ x ∈ xs, P x) ∧ w.I (N + ws.length * c) S' ∧ w.K (S0 ++ [.lst (acc ++ xs)]) S' ∧ S'.length = S0.length + 1
  | [], acc, S0, S, N0, N, h0, hl, hI, hS, hK, _, _, _ => ⟨[], S, by simp only [lcL, if_pos (hok S)], by rw [List.append_nil]; exact hS, rfl, (fun _ h => by cases h), by simpa using hI, by rw [List.append_nil]; exact hK, hl⟩
  | x :: ws, acc, S0, S, N0, N, h0, hl, hI, hS, hK, hz, hN, he => by
    rw [List.length_cons] at hz hN
    rw [Nat.succ_mul] at hN
    obtain ⟨ρ1, eg, ee⟩ := he x (by simp)
    obtain ⟨d, S1, e1, p1, i1, k1⟩ := ee S N hI (by omega)
    have k2 := w.trans hK k1
    have l1 : S1.length = S0.length + 1 := by rw [w.len k1, hl]
    have t1 := w.top h0 k2
    have pt : lcPut S0.length (.d d) S1 = some (S1.set S0.length (.lst (acc ++ [d]))) := by
      simp only [lcPut, t1, if_pos (show acc.length < lim by show acc.length < 16777216; omega)]
    obtain ⟨xs, S', e2, a2, b2, c2, d2, f2_, g2⟩ := lc_draw hok ws (acc ++ [d]) S0 (S1.set S0.length (.lst (acc ++ [d]))) N0 (N + c) h0 (by rw [List.length_set]; exact l1) (w.reset h0 l1 i1) (List.getElem?_set_self (by omega)) (w.kset h0 k2) (by rw [List.length_append, List.length_singleton]; omega) (by omega) fun y m => he y (by simp [m])
    refine ⟨d :: xs, S', ?_, ?_, by rw [List.length_cons, List.length_cons, b2], ?_, ?_, ?_, g2⟩
    · have fz : frz S.length (.ok (.d d) S1 : R W) = .ok (.d d) S1 := by
        show R.ok _ (S1.take S.length) = _
        rw [List.take_of_length_le (by omega)]
      rw [lcL, if_pos (hok S), eg]
      simp only [noX_ok, fYes, R_ok, if_true, e1, fz, pt]
      exact e2
    · rw [a2, List.append_assoc]; rfl
    · intro y m
      rcases List.mem_cons.mp m with rfl | m
      · exact p1
      · exact c2 y m
    · rw [List.length_cons, Nat.succ_mul]
      rw [show N + (ws.length * c + c) = N + c + ws.length * c by omega]
      exact d2
    · rw [List.append_assoc] at f2_
      exact f2_
theorem DrE.comp {it : FK} {g : FG} {el : FE} {vs : List Nat} {ρ : Rho} {c1 c m : Nat} {P : PyData → Prop} {Q : List PyData → Prop} (hit : ∀ S N, w.I N S → N + c1 < 2 ^ 58 → ∃ ws ok S', (∀ S, ok S) ∧ it ρ S = .ok ⟨ws, ok⟩ S' ∧ w.I (N + c1) S' ∧ w.K S S' ∧ ws.length ≤ m ∧ m < 100000 ∧
      (∀ x ∈ ws, ∃ ρ1, g x (wipeR ρ vs) = some ρ1 ∧ DrE w el ρ1 c P) ∧ (∀ xs : List PyData, xs.length = ws.length → (∀ x ∈ xs, P x) → Q xs)) :
    DrE w (fLc it g fYes el vs) ρ (c1 + m * c) (fun x => ∃ xs, x = .list xs ∧ Q xs) := fun S N hI hN => by
  obtain ⟨ws, ok, S1, hok, e1, i1, k1, hm, hm2, he, hq⟩ := hit S N hI (by omega)
  have hle : ws.length * c ≤ m * c := Nat.mul_le_mul_right c hm
  obtain ⟨xs, S', e2, a2, b2, c2, d2, f2_, g2⟩ := lc_draw hok (g := g) (el := el) (ρ := wipeR ρ vs) ws [] S1 (S1 ++ [.lst []]) (N + c1) (N + c1) i1 (by rw [List.length_append]; rfl) (w.push _ i1) (by rw [List.getElem?_append_right (Nat.le_refl _), Nat.sub_self]; rfl) (w.refl _) (by rw [List.length_nil]; omega) (by omega) he
  rw [List.nil_append] at a2 f2_
  obtain ⟨i3, k3⟩ := w.cut i1 f2_ d2
  refine ⟨.list xs, S'.take S1.length, ?_, ⟨xs, rfl, hq xs b2 c2⟩, w.mono i3 (by omega), w.trans k1 k3⟩
  have hlen := w.len k1
  unfold fLc fLcL
  rw [e1, R_ok]
  show frz S.length (lcL ok g fYes el (wipeR ρ vs) S1.length ws (S1 ++ [.lst []])) = _
  rw [e2]
  have fw : frzW S.length S' (.loc S1.length) = some (.d (.list xs)) := by
    unfold frzW
    rw [if_neg (by omega), a2]
  show (match frzW S.length S' (.loc S1.length) with | some w' => R.ok w' (S'.take S.length) | none => R.bad) = _
  rw [fw, hlen]
end
end P4
end VI
set_option Elab.async false
set_option linter.all false
set_option maxRecDepth 100000
namespace VI
open PySem PySem.Spec PyProof.Rows L2
namespace P4

theorem T12 (n : Nat) : Taker (callN (n + 1) 12) := fun S l b m h1 h2 h3 h4 => taker S l b m h1 h2 h3 h4
theorem mixed_bg (n : Nat) {S : Store} {l N : Nat} {ds : List PyData} {n2 : Nat} {fa : FA} {ρ : Rho} (hb : BG S l N) (hN : N + ds.length < 2 ^ 59) (hz : ds.length < 1000000) (ea : fa ρ S = .ok [.loc l, .d (.list ds)] S) :
    ∃ ms S', ms.Perm ds ∧ fCall 2 (callN (n + 2) 14) fa ρ S = .ok (.d (.list ms)) S' ∧ S'.length = S.length ∧ BG S' l (N + ds.length) ∧ ∀ j, j ≠ l → S'[j]? = S[j]? := by
  obtain ⟨b, h1, h2, h3⟩ := hb
  have mf := mix_fit ds [] b h2
  have r := ev_mixed (g := callN (n + 2) 14) (T12 n) (fun _ _ => rfl) (fa := fun _ S => .ok (.loc l) S) (fb := fun _ S => .ok (.d (.list ds)) S) (ρ := ρ) (S := S) rfl rfl h1 h2 (by omega) hz
  refine ⟨(mixP b [] ds).1, S.set l (mixP b [] ds).2.so, ?_, ?_, List.length_set .., ⟨_, at_set h1, mf.1, by omega⟩, fun j hj => List.getElem?_set_ne (Ne.symm hj)⟩
  · have := mix_perm ds [] b
    rw [List.append_nil] at this
    exact this
  · unfold fCall at r ⊢
    rw [ea]
    exact r
def K1 (l : Nat) (S S' : Store) : Prop := S'.length = S.length ∧ ∀ i, i ≠ l → S'[i]? = S[i]?
/-- the bag alone changes -/
def W1 (l : Nat) : Wd where
  l := l
  I := fun N S => BG S l N
  K := K1 l
  refl := fun S => ⟨rfl, fun _ _ => rfl⟩
  trans := fun h h2 => ⟨h2.1.trans h.1, fun i hi => (h2.2 i hi).trans (h.2 i hi)⟩
  mono := fun h m => h.mono m
  push := fun o h => h.push o
  len := fun h => h.1
  top := fun {N S o S'} h k => by
    have hl := h.lt
    rw [k.2 _ (by omega), List.getElem?_append_right (Nat.le_refl _), Nat.sub_self]
    rfl
  reset := fun {N M S S' o} h hl h2 => h2.setne (by have := h.lt; omega)
  kset := fun {N S o o' S'} h k => by
    refine ⟨by rw [List.length_set, k.1, List.length_append, List.length_append]; rfl, fun i hi => ?_⟩
    have hl : S'.length = S.length + 1 := by rw [k.1, List.length_append]; rfl
    by_cases e : i = S.length
    · subst e
      rw [List.getElem?_set_self (by omega), List.getElem?_append_right (Nat.le_refl _), Nat.sub_self]
      rfl
    · rw [List.getElem?_set_ne (Ne.symm e), k.2 i hi]
      by_cases h2 : i < S.length
      · rw [List.getElem?_append_left h2, List.getElem?_append_left h2]
      · rw [List.getElem?_eq_none (by rw [List.length_append, List.length_singleton]; omega), List.getElem?_eq_none (by rw [List.length_append, List.length_singleton]; omega)]
  cut := fun {N M S o S'} h k h2 => by
    have hl := h.lt
    have hl2 : S'.length = S.length + 1 := by rw [k.1, List.length_append]; rfl
    refine ⟨h2.take hl, by rw [List.length_take]; omega, fun i hi => ?_⟩
    by_cases h3 : i < S.length
    · rw [List.getElem?_take_of_lt h3, k.2 i hi, List.getElem?_append_left h3]
    · rw [List.getElem?_eq_none (by rw [List.length_take]; omega), List.getElem?_eq_none (by omega)]
  tk := fun n {N S m} h hN hm => by
    obtain ⟨v, S', e, hv, z, b, o⟩ := take_bg (T12 n) h hN hm
    exact ⟨v, S', e, hv, b, z, o⟩
  sm := fun n {N S ds} h hN hd => by
    obtain ⟨x, S', m, e, z, b, o⟩ := some_bg (T12 n) h hN hd
    exact ⟨x, S', m, e, b, z, o⟩
  mx := fun n {N S ds n2 fa ρ} h hN hz ea => by
    obtain ⟨ms, S', p, e, z, b, o⟩ := mixed_bg n (n2 := 0) h hN hz ea
    exact ⟨ms, S', p, e, b, z, o⟩
def NMS : List PyData := [.str "x", .str "y", .str "f", .str "v0", .str "g"]
def NM (S : Store) (m : Nat) : Prop := ∃ ns, S[m]? = some (.lst ns) ∧ (∀ x ∈ ns, x ∈ NMS) ∧ ns.length ≤ 5
theorem NM.of {S S' : Store} {m : Nat} (h : NM S m) (e : S'[m]? = S[m]?) : NM S' m := by
  obtain ⟨ns, h1, h2⟩ := h
  exact ⟨ns, by rw [e]; exact h1, h2⟩
theorem NM.lt {S : Store} {m : Nat} (h : NM S m) : m < S.length := by
  obtain ⟨ns, h1, h2⟩ := h
  exact (List.getElem?_eq_some_iff.mp h1).1
def K2 (l m : Nat) (S S' : Store) : Prop := S'.length = S.length ∧ ∀ i, i ≠ l → i ≠ m → S'[i]? = S[i]?
/-- the bag and the names change -/
def W2 (l m : Nat) (hlm : m ≠ l) : Wd where
  l := l
  I := fun N S => BG S l N ∧ NM S m
  K := K2 l m
  refl := fun S => ⟨rfl, fun _ _ _ => rfl⟩
  trans := fun h h2 => ⟨h2.1.trans h.1, fun i hi hj => (h2.2 i hi hj).trans (h.2 i hi hj)⟩
  mono := fun h m => ⟨h.1.mono m, h.2⟩
  push := fun o h => ⟨h.1.push o, h.2.of (List.getElem?_append_left h.2.lt)⟩
  len := fun h => h.1
  top := fun {N S o S'} h k => by
    have hl := h.1.lt
    have hm := h.2.lt
    rw [k.2 _ (by omega) (by omega), List.getElem?_append_right (Nat.le_refl _), Nat.sub_self]
    rfl
  reset := fun {N M S S' o} h hl h2 => ⟨h2.1.setne (by have := h.1.lt; omega), h2.2.of (List.getElem?_set_ne (by have := h.2.lt; omega))⟩
  kset := fun {N S o o' S'} h k => by
    refine ⟨by rw [List.length_set, k.1, List.length_append, List.length_append]; rfl, fun i hi hj => ?_⟩
    have hl : S'.length = S.length + 1 := by rw [k.1, List.length_append]; rfl
    by_cases e : i = S.length
    · subst e
      rw [List.getElem?_set_self (by omega), List.getElem?_append_right (Nat.le_refl _), Nat.sub_self]
      rfl
    · rw [List.getElem?_set_ne (Ne.symm e), k.2 i hi hj]
      by_cases h2 : i < S.length
      · rw [List.getElem?_append_left h2, List.getElem?_append_left h2]
      · rw [List.getElem?_eq_none (by rw [List.length_append, List.length_singleton]; omega), List.getElem?_eq_none (by rw [List.length_append, List.length_singleton]; omega)]
  cut := fun {N M S o S'} h k h2 => by
    have hl := h.1.lt
    have hm := h.2.lt
    have hl2 : S'.length = S.length + 1 := by rw [k.1, List.length_append]; rfl
    refine ⟨⟨h2.1.take hl, h2.2.of (List.getElem?_take_of_lt hm)⟩, by rw [List.length_take]; omega, fun i hi hj => ?_⟩
    by_cases h3 : i < S.length
    · rw [List.getElem?_take_of_lt h3, k.2 i hi hj, List.getElem?_append_left h3]
    · rw [List.getElem?_eq_none (by rw [List.length_take]; omega), List.getElem?_eq_none (by omega)]
  tk := fun n {N S v} h hN hm => by
    obtain ⟨v, S', e, hv, z, b, o⟩ := take_bg (T12 n) h.1 hN hm
    exact ⟨v, S', e, hv, ⟨b, h.2.of (o m hlm)⟩, z, fun i hi _ => o i hi⟩
  sm := fun n {N S ds} h hN hd => by
    obtain ⟨x, S', mm, e, z, b, o⟩ := some_bg (T12 n) h.1 hN hd
    exact ⟨x, S', mm, e, ⟨b, h.2.of (o m hlm)⟩, z, fun i hi _ => o i hi⟩
  mx := fun n {N S ds n2 fa ρ} h hN hz ea => by
    obtain ⟨ms, S', p, e, z, b, o⟩ := mixed_bg n (n2 := 0) h.1 hN hz ea
    exact ⟨ms, S', p, e, ⟨b, h.2.of (o m hlm)⟩, z, fun i hi _ => o i hi⟩
/-! names, makers, numbers, labels -/
abbrev Sm0 (x : PyData) : Prop := Sm 0 25 x
theorem sm0_str {x : Str} (h : (okc x.cps.toList && decide (x.cps.size ≤ 25)) = true) : Sm0 (.str x) := by
  rw [Bool.and_eq_true, decide_eq_true_eq] at h
  exact ⟨h.1, Nat.zero_le _, h.2⟩
def strB (x : PyData) : Bool := match x with
  | .str s => okc s.cps.toList && decide (s.cps.size ≤ 25)
  | _ => false
theorem strB_sm {x : PyData} (h : strB x = true) : Sm0 x := by
  cases x with
  | str s => exact sm0_str h
  | _ => cases h
theorem all_sm {ds : List PyData} (h : ds.all strB = true) : ∀ y ∈ ds, Sm0 y := fun y m => strB_sm (List.all_eq_true.mp h y m)
def NAM : List PyData := [.str "x", .str "y", .str "f", .str "v0", .str "v1", .str "v2", .str "g", .str "aName_2", .str "M.x", .str "List.map", .str "num", .str "cell", .str "x"]
def SML : List PyData := [.str "x", .str "y", .str "f", .str "v0", .str "v1", .str "g", .str "a_1", .str "truth", .str "x", .str "y", .str "abcdefghijklmnopqrst"]
def MKR : List PyData := [.str "A", .str "Cons", .str "Nil", .str "M.Cons", .str "Some", .str "B_2", .str "A", .str "Abcdefghijklmnopqrst.Z"]
def NUM : List PyData := [.int 0, .int 1, .int 2, .int (-1), .int 7, .int 10, .int (-20), .int 2147483647, .int (-2147483648), .int 305, .int 1]
def LBL : List PyData := [.str "a", .str "b", .str "c", .str "num", .str "aB", .str "x"]
theorem num_sm {y : PyData} (h : y ∈ NUM) : Sm0 y := by
  simp only [NUM, List.mem_cons, List.not_mem_nil, or_false] at h
  rcases h with h | h | h | h | h | h | h | h | h | h | h <;> (rw [h]; exact Sm.int (by decide))
section
variable (w : Wd) (n : Nat)
theorem d_name : DrF w (callN (n + 3) 22) [] 1 Sm0 := DrF.of (b := b22 (callN (n + 2))) (k := 1) (fun S => rfl) (DrS.ret (DrE.oneC n (ds := NAM) rfl (fun S => rfl) (by decide) (all_sm (by decide +kernel))))
theorem d_small : DrF w (callN (n + 3) 23) [] 1 Sm0 := DrF.of (b := b23 (callN (n + 2))) (k := 1) (fun S => rfl) (DrS.ret (DrE.oneC n (ds := SML) rfl (fun S => rfl) (by decide) (all_sm (by decide +kernel))))
theorem d_maker : DrF w (callN (n + 3) 24) [] 1 Sm0 := DrF.of (b := b24 (callN (n + 2))) (k := 1) (fun S => rfl) (DrS.ret (DrE.oneC n (ds := MKR) rfl (fun S => rfl) (by decide) (all_sm (by decide +kernel))))
theorem d_number : DrF w (callN (n + 3) 26) [] 1 Sm0 := DrF.of (b := b26 (callN (n + 2))) (k := 1) (fun S => rfl) (DrS.ret (DrE.oneC n (ds := NUM) rfl (fun S => rfl) (by decide) fun y m => num_sm m))
def LB (x : PyData) : Prop := ∃ xs, x = .list xs ∧ xs.length ≤ 3 ∧ ∀ y ∈ xs, Sm0 y
theorem strs_of : ∀ {ds : List PyData}, ds.all strB = true → ∃ ks : List Str, ds = ks.map PyData.str
  | [], _ => ⟨[], rfl⟩
  | d :: ds, h => by
    rw [List.all_cons, Bool.and_eq_true] at h
    obtain ⟨ks, rfl⟩ := strs_of h.2
    cases d with
    | str x => exact ⟨x :: ks, rfl⟩
    | _ => cases h.1
theorem strsD_map : ∀ ks : List Str, strsD (ks.map PyData.str) = some ks
  | [] => rfl
  | k :: ks => by rw [List.map_cons, strsD, strsD_map ks]; rfl
theorem strs_of3 : ∀ {ds : List PyData}, ds.all (fun x => match x with | .str s => okc s.cps.toList && decide (s.cps.size ≤ 3) | _ => false) = true → ∃ ks : List Str, ds = ks.map PyData.str
  | [], _ => ⟨[], rfl⟩
  | d :: ds, h => by
    rw [List.all_cons, Bool.and_eq_true] at h
    obtain ⟨ks, rfl⟩ := strs_of3 h.2
    cases d with
    | str x => exact ⟨x :: ks, rfl⟩
    | _ => cases h.1
def str3 (x : PyData) : Bool := match x with
  | .str s => okc s.cps.toList && decide (s.cps.size ≤ 3)
  | _ => false
theorem d_labelsG {Q : PyData → Prop} (hB : LBL.all str3 = true) (hQ : ∀ x, str3 x = true → Q x) : DrF w (callN (n + 3) 25) [iw 1] 7 (fun x => ∃ xs, x = .list xs ∧ xs.length ≤ 3 ∧ ∀ y ∈ xs, Q y) := by
  refine DrF.of (b := b25 (callN (n + 2))) (k := 2) (fun S => rfl) (DrS.ret ?_)
  intro S N hI hN
  obtain ⟨ms, S1, pm, e1, i1, k1⟩ := w.mx n (ds := LBL) (n2 := 0) (fa := fAc (fVar 0) (fAc (fL gLst (fAc (fC (.str "a")) (fAc (fC (.str "b")) (fAc (fC (.str "c")) (fAc (fC (.str "num")) (fAc (fC (.str "aB")) (fAc (fC (.str "x")) fA0))))))) fA0)) (ρ := [some (.loc w.l), some (iw 1)]) hI (by show N + 6 < _; omega) (by decide) rfl
  obtain ⟨v, S2, e2, hv, i2, k2⟩ := w.tk (n + 1) (m := 3) i1 (by show N + 6 < _; omega) (by decide)
  have ml : ms.length = 6 := pm.length_eq
  have mall : ms.all str3 = true := List.all_eq_true.mpr fun y m => List.all_eq_true.mp hB y (pm.mem_iff.mp m)
  obtain ⟨j, hj⟩ : ∃ j : Nat, (1 : Int) + v = (j : Int) ∧ j ≤ 3 := ⟨(1 + v).toNat, by omega, by omega⟩
  have tall : (ms.take j).all str3 = true := List.all_eq_true.mpr fun y m => List.all_eq_true.mp mall y (List.mem_of_mem_take m)
  obtain ⟨ks, hks⟩ := strs_of3 tall
  have f2_ : fCall 2 (callN (n + 2) 12) (fAc (fVar 0) (fAc (fC (.int 3)) fA0)) [some (.loc w.l), some (iw 1)] S1 = .ok (iw v) S2 := fcall_at (ws := [.loc w.l, iw 3]) (ev_ac (ev_var rfl) (ev_one rfl)) e2 (w.len k2) rfl
  have kl : ks.length ≤ 3 := by
    have := congrArg List.length hks
    rw [List.length_take, List.length_map] at this
    omega
  have ga : f2 gAdd (fVar 1) (fCall 2 (callN (n + 2) 12) (fAc (fVar 0) (fAc (fC (.int 3)) fA0))) [some (.loc w.l), some (iw 1)] S1 = .ok (iw (j : Int)) S2 := by
    rw [← hj.1]
    exact ev_f2 (ev_var rfl) f2_ rfl
  have sl : gSlA (.d (.list ms)) none (some (j : Int)) S2 = some (.d (.list (ks.map .str)), S2) := by
    show some (W.d (.list (cutG ms none (some (j : Int)))), S2) = _
    rw [cut_to, hks]
  have es : fSl gSlA (fCall 2 (callN (n + 2) 14) (fAc (fVar 0) (fAc (fL gLst (fAc (fC (.str "a")) (fAc (fC (.str "b")) (fAc (fC (.str "c")) (fAc (fC (.str "num")) (fAc (fC (.str "aB")) (fAc (fC (.str "x")) fA0))))))) fA0))) fNoPart (fPart (f2 gAdd (fVar 1) (fCall 2 (callN (n + 2) 12) (fAc (fVar 0) (fAc (fC (.int 3)) fA0))))) [some (.loc w.l), some (iw 1)] S = .ok (.d (.list (ks.map .str))) S2 := by
    unfold fSl
    rw [e1, R_ok]
    show (R.ok none S1 : R (Option Int)).bind _ = _
    rw [R_ok]
    show ((fPart _ [some (.loc w.l), some (iw 1)] S1).bind _) = _
    unfold fPart
    rw [ga]
    show (R.ok (some (j : Int)) S2 : R (Option Int)).bind _ = _
    rw [R_ok, sl]
    rfl
  have gs : gSortA [.d (.list (ks.map .str))] S2 = some (.d (.list ((srtS ks).map .str)), S2) := by
    unfold gSortA gSorted
    simp only [asLW, datas_map, strsD_map]
    rw [if_pos (by omega)]
  refine ⟨.list ((srtS ks).map .str), S2, ev_L (ev_one es) gs, ⟨_, rfl, ?_, fun y m => ?_⟩, w.mono i2 (by show N + 6 + 1 ≤ N + 7; omega), w.trans k1 k2⟩
  · rw [List.length_map]
    unfold srtS
    rw [(List.mergeSort_perm ks leS).length_eq]
    exact kl
  · obtain ⟨x, m1, rfl⟩ := List.mem_map.mp m
    have m2 : x ∈ ks := (List.mergeSort_perm ks leS).mem_iff.mp m1
    refine hQ _ (List.all_eq_true.mp tall _ ?_)
    rw [hks]
    exact List.mem_map_of_mem m2
theorem d_labels : DrF w (callN (n + 3) 25) [iw 1] 7 LB := by
  refine DrF.of (b := b25 (callN (n + 2))) (k := 2) (fun S => rfl) (DrS.ret ?_)
  intro S N hI hN
  obtain ⟨ms, S1, pm, e1, i1, k1⟩ := w.mx n (ds := LBL) (n2 := 0) (fa := fAc (fVar 0) (fAc (fL gLst (fAc (fC (.str "a")) (fAc (fC (.str "b")) (fAc (fC (.str "c")) (fAc (fC (.str "num")) (fAc (fC (.str "aB")) (fAc (fC (.str "x")) fA0))))))) fA0)) (ρ := [some (.loc w.l), some (iw 1)]) hI (by show N + 6 < _; omega) (by decide) rfl
  obtain ⟨v, S2, e2, hv, i2, k2⟩ := w.tk (n + 1) (m := 3) i1 (by show N + 6 < _; omega) (by decide)
  have ml : ms.length = 6 := pm.length_eq
  have mall : ms.all strB = true := List.all_eq_true.mpr fun y m => List.all_eq_true.mp (show LBL.all strB = true by decide +kernel) y (pm.mem_iff.mp m)
  obtain ⟨j, hj⟩ : ∃ j : Nat, (1 : Int) + v = (j : Int) ∧ j ≤ 3 := ⟨(1 + v).toNat, by omega, by omega⟩
  have tall : (ms.take j).all strB = true := List.all_eq_true.mpr fun y m => List.all_eq_true.mp mall y (List.mem_of_mem_take m)
  obtain ⟨ks, hks⟩ := strs_of tall
  have f2_ : fCall 2 (callN (n + 2) 12) (fAc (fVar 0) (fAc (fC (.int 3)) fA0)) [some (.loc w.l), some (iw 1)] S1 = .ok (iw v) S2 := fcall_at (ws := [.loc w.l, iw 3]) (ev_ac (ev_var rfl) (ev_one rfl)) e2 (w.len k2) rfl
  have kl : ks.length ≤ 3 := by
    have := congrArg List.length hks
    rw [List.length_take, List.length_map] at this
    omega
  have ga : f2 gAdd (fVar 1) (fCall 2 (callN (n + 2) 12) (fAc (fVar 0) (fAc (fC (.int 3)) fA0))) [some (.loc w.l), some (iw 1)] S1 = .ok (iw (j : Int)) S2 := by
    rw [← hj.1]
    exact ev_f2 (ev_var rfl) f2_ rfl
  have sl : gSlA (.d (.list ms)) none (some (j : Int)) S2 = some (.d (.list (ks.map .str)), S2) := by
    show some (W.d (.list (cutG ms none (some (j : Int)))), S2) = _
    rw [cut_to, hks]
  have es : fSl gSlA (fCall 2 (callN (n + 2) 14) (fAc (fVar 0) (fAc (fL gLst (fAc (fC (.str "a")) (fAc (fC (.str "b")) (fAc (fC (.str "c")) (fAc (fC (.str "num")) (fAc (fC (.str "aB")) (fAc (fC (.str "x")) fA0))))))) fA0))) fNoPart (fPart (f2 gAdd (fVar 1) (fCall 2 (callN (n + 2) 12) (fAc (fVar 0) (fAc (fC (.int 3)) fA0))))) [some (.loc w.l), some (iw 1)] S = .ok (.d (.list (ks.map .str))) S2 := by
    unfold fSl
    rw [e1, R_ok]
    show (R.ok none S1 : R (Option Int)).bind _ = _
    rw [R_ok]
    show ((fPart _ [some (.loc w.l), some (iw 1)] S1).bind _) = _
    unfold fPart
    rw [ga]
    show (R.ok (some (j : Int)) S2 : R (Option Int)).bind _ = _
    rw [R_ok, sl]
    rfl
  have gs : gSortA [.d (.list (ks.map .str))] S2 = some (.d (.list ((srtS ks).map .str)), S2) := by
    unfold gSortA gSorted
    simp only [asLW, datas_map, strsD_map]
    rw [if_pos (by omega)]
  refine ⟨.list ((srtS ks).map .str), S2, ev_L (ev_one es) gs, ⟨_, rfl, ?_, fun y m => ?_⟩, w.mono i2 (by show N + 6 + 1 ≤ N + 7; omega), w.trans k1 k2⟩
  · rw [List.length_map]
    unfold srtS
    rw [(List.mergeSort_perm ks leS).length_eq]
    exact kl
  · obtain ⟨x, m1, rfl⟩ := List.mem_map.mp m
    have m2 : x ∈ ks := (List.mergeSort_perm ks leS).mem_iff.mp m1
    refine strB_sm (List.all_eq_true.mp tall _ ?_)
    rw [hks]
    exact List.mem_map_of_mem m2
end
end P4
end VI
set_option Elab.async false
set_option linter.all false
set_option maxRecDepth 100000
namespace VI
open PySem PySem.Spec PyProof.Rows L2
namespace P4

/-! patterns -/
def pb : Nat → Nat
  | 0 => 30
  | d + 1 => 3 * pb d + 30
def cp : Nat → Nat
  | 0 => 10
  | d + 1 => 3 * cp d + 20
theorem pb_ge (d : Nat) : 30 ≤ pb d := by cases d <;> simp only [pb] <;> omega
theorem cp_ge (d : Nat) : 10 ≤ cp d := by cases d <;> simp only [cp] <;> omega
def PatP (d : Nat) (x : PyData) : Prop := Sm (3 * d + 2) (pb d) x
theorem sm_str {x : Str} {k b : Nat} (h1 : okc x.cps.toList = true) (h2 : x.cps.size ≤ b) : Sm k b (.str x) := ⟨h1, Nat.zero_le _, h2⟩
theorem sm_word {x : Str} (h : (okc x.cps.toList && decide (x.cps.size ≤ 6)) = true) : Sm 0 6 (.str x) := by
  rw [Bool.and_eq_true, decide_eq_true_eq] at h
  exact ⟨h.1, Nat.zero_le _, h.2⟩
theorem pat_one {wd : Str} (hw : (okc wd.cps.toList && decide (wd.cps.size ≤ 6)) = true) (d : Nat) : PatP d (.tuple [.str wd]) := by
  have := pb_ge d
  exact (Sm.tuple (Sms.one (sm_word hw))).mono (by omega) (by omega)
theorem pat_two {wd : Str} (hw : (okc wd.cps.toList && decide (wd.cps.size ≤ 4)) = true) {x : PyData} (hx : Sm 0 8 x) (d : Nat) : PatP d (.tuple [.str wd, x]) := by
  rw [Bool.and_eq_true, decide_eq_true_eq] at hw
  have := pb_ge d
  exact (Sm.tuple (Sms.cons (k := 0) (b1 := 4) (sm_str hw.1 hw.2) (Sms.one hx))).mono (by omega) (by omega)
theorem str4 : (okc ("make" : Str).cps.toList && decide (("make" : Str).cps.size ≤ 4)) = true := by decide +kernel
theorem pat_make {x p : PyData} (hx : Sm 0 22 x) {k b : Nat} (hp : Sm k b p) : Sm (k + 1) (b + 29) (.tuple [.str "make", x, p]) := by
  have h := str4
  rw [Bool.and_eq_true, decide_eq_true_eq] at h
  exact (Sm.tuple (Sms.cons (k := k) (b1 := 4) (sm_str h.1 h.2) (Sms.cons (hx.mono (Nat.zero_le _) (Nat.le_refl _)) (Sms.one hp)))).mono (by omega) (by omega)
theorem tuple_word : (okc ("tuple" : Str).cps.toList && decide (("tuple" : Str).cps.size ≤ 6)) = true := by decide +kernel
theorem record_word : (okc ("record" : Str).cps.toList && decide (("record" : Str).cps.size ≤ 6)) = true := by decide +kernel
def ML3 (x : PyData) : Prop := Sm 0 22 x
def mk22 (x : PyData) : Bool := match x with
  | .str s => okc s.cps.toList && decide (s.cps.size ≤ 22)
  | _ => false
theorem d_maker22 (w : Wd) (n : Nat) : DrF w (callN (n + 3) 24) [] 1 ML3 := DrF.of (b := b24 (callN (n + 2))) (k := 1) (fun S => rfl) (DrS.ret (DrE.oneC n (ds := MKR) rfl (fun S => rfl) (by decide) fun y m => by
  have h : mk22 y = true := List.all_eq_true.mp (show MKR.all mk22 = true by decide +kernel) y m
  cases y with
  | str s =>
    have h2 : (okc s.cps.toList && decide (s.cps.size ≤ 22)) = true := h
    rw [Bool.and_eq_true, decide_eq_true_eq] at h2
    exact ⟨h2.1, Nat.zero_le _, h2.2⟩
  | _ => cases h))
def LB3 (x : PyData) : Prop := Sm 0 3 x
def str8 (x : PyData) : Bool := match x with
  | .str s => okc s.cps.toList && decide (s.cps.size ≤ 8)
  | _ => false
theorem nms_sm {x : PyData} (h : x ∈ NMS) : Sm 0 8 x := by
  have h2 : str8 x = true := List.all_eq_true.mp (show NMS.all str8 = true by decide +kernel) x h
  cases x with
  | str s =>
    have h3 : (okc s.cps.toList && decide (s.cps.size ≤ 8)) = true := h2
    rw [Bool.and_eq_true, decide_eq_true_eq] at h3
    exact sm_str h3.1 h3.2
  | _ => cases h2
section
variable {l m : Nat} (hlm : m ≠ l)
theorem names_pop {S : Store} {N : Nat} {ρ : Rho} (n : Nat) (h0 : ρ[0]? = some (some (.loc l))) (h2 : ρ[2]? = some (some (.loc m))) (hI : (W2 l m hlm).I N S) (hN : N + 1 < 2 ^ 58) {ns : List PyData} (hns : S[m]? = some (.lst ns)) (hm : ∀ x ∈ ns, x ∈ NMS) (h5 : ns.length ≤ 5) (hp : 0 < ns.length) :
    ∃ x S', fMeth mPopAt (fVar 2) (fAc (fCall 2 (callN (n + 1) 12) (fAc (fVar 0) (fAc (fL gLen (fAc (fVar 2) fA0)) fA0))) fA0) ρ S = .ok (.d x) S' ∧ x ∈ NMS ∧ (W2 l m hlm).I (N + 1) S' ∧ (W2 l m hlm).K S S' := by
  obtain ⟨v, S1, e1, hv, i1, k1⟩ := (W2 l m hlm).tk n (m := ns.length) hI (by omega) ⟨by omega, by omega⟩
  obtain ⟨hb, ns1, h1, hm1, hl1⟩ := i1
  have same : S1[m]? = some (.lst ns) := by
    obtain ⟨v', S1', e1', hv', z, b, o⟩ := take_bg (T12 n) (m := ns.length) hI.1 (by omega) ⟨by omega, by omega⟩
    have e2 : callN (n + 1) 12 [.loc l, .d (.int ns.length)] S = .ok (.d (.int v)) S1 := e1
    rw [e1'] at e2
    injection e2 with _ e3
    rw [← e3, o m hlm]
    exact hns
  have hi : v.toNat < ns.length := by omega
  refine ⟨ns[v.toNat], S1.set m (.lst (ns.eraseIdx v.toNat)), ?_, hm _ (List.getElem_mem hi), ⟨hb.setne hlm, ns.eraseIdx v.toNat, at_set same, fun x mm => hm x (List.mem_of_mem_eraseIdx mm), by rw [List.length_eraseIdx]; split <;> omega⟩, ?_⟩
  · have gl : gLen [.loc m] S = some (iw (ns.length : Int), S) := by simp only [gLen, asSeq, hns]
    have ln : fL gLen (fAc (fVar 2) fA0) ρ S = .ok (iw (ns.length : Int)) S := ev_L (ws := [.loc m]) (ev_one (ev_var h2)) gl
    have f12 : fCall 2 (callN (n + 1) 12) (fAc (fVar 0) (fAc (fL gLen (fAc (fVar 2) fA0)) fA0)) ρ S = .ok (iw v) S1 := fcall_at (ws := [.loc l, iw (ns.length : Int)]) (ev_ac (ev_var h0) (ev_one ln)) e1 ((W2 l m hlm).len k1) rfl
    refine ev_meth (ws := [iw v]) (ev_var h2) (by simp only [liveB, hns]) (ev_one f12) ?_
    have ix : seqIndex? v ns.length = some v.toNat := by
      have h1 : ¬ v < 0 := by omega
      have h2 : (decide (0 ≤ v) && decide (v < (ns.length : Int))) = true := by
        rw [Bool.and_eq_true, decide_eq_true_eq, decide_eq_true_eq]
        exact hv
      simp only [seqIndex?, if_neg h1]
      rw [if_pos h2]
    unfold mPopAt
    simp only [same, ix, List.getElem?_eq_getElem hi]
    rw [if_pos (by omega)]
  · refine ⟨by rw [List.length_set]; exact k1.1, fun i hi hj => ?_⟩
    rw [List.getElem?_set_ne (Ne.symm hj)]
    exact k1.2 i hi hj
/-- a number below so many -/
def Way (k : Nat) (x : PyData) : Prop := ∃ v : Nat, x = .int (v : Int) ∧ v < k
theorem way_take (w : Wd) (n : Nat) {ρ : Rho} {k : Nat} {e : FE} (h0 : ρ[0]? = some (some (.loc w.l))) (he : ∀ S, e ρ S = .ok (iw (k : Int)) S) (hk : 0 < k ∧ k < 1000) : DrE w (fCall 2 (callN (n + 1) 12) (fAc (fVar 0) (fAc e fA0))) ρ 1 (Way k) :=
  (DrE.take n h0 he ⟨by omega, by omega⟩).weak (Nat.le_refl _) fun x ⟨v, e, h1, h2⟩ => ⟨v.toNat, by rw [e]; congr 1; omega, by omega⟩
noncomputable abbrev patR (call : Calls) : FS := (fSeq (fIf (fOrT (fTest (f2 gEq (fVar 3) (fC (.int 0)))) (fAndT (fTest (f2 gEq (fVar 3) (fC (.int 1)))) (fTest (f2 gEq (fVar 2) (fL gLst fA0))))) (fRet (fL gTup (fAc (fC (.str "any")) fA0))) fNext) (fSeq (fIf (fTest (f2 gEq (fVar 3) (fC (.int 1)))) (fRet (fL gTup (fAc (fC (.str "bind")) (fAc (fMeth mPopAt (fVar 2) (fAc (fCall 2 (call 12) (fAc (fVar 0) (fAc (fL gLen (fAc (fVar 2) fA0)) fA0))) fA0)) fA0)))) fNext) (fSeq (fIf (fTest (f2 gEq (fVar 3) (fC (.int 2)))) (fRet (fCall 2 (call 13) (fAc (fVar 0) (fAc (fL gLst (fAc (fL gTup (fAc (fC (.str "num")) (fAc (fCall 1 (call 26) (fAc (fVar 0) fA0)) fA0))) (fAc (fL gTup (fAc (fC (.str "truth")) (fAc (fC (.bool true)) fA0))) (fAc (fL gTup (fAc (fC (.str "truth")) (fAc (fC (.bool false)) fA0))) fA0)))) fA0)))) fNext) (fSeq (fIf (fTest (f2 gLt (fVar 3) (fC (.int 5)))) (fRet (fIfE (fTest (f2 gEq (fVar 3) (fC (.int 3)))) (fL gTup (fAc (fC (.str "make")) (fAc (fCall 1 (call 24) (fAc (fVar 0) fA0)) (fAc (fC .none) fA0)))) (fL gTup (fAc (fC (.str "tuple")) (fAc (fL gTup fA0) fA0))))) fNext) (fSeq (fIf (fTest (f2 gLt (fVar 3) (fC (.int 7)))) (fSeq (fAsg (fCall 3 (call 27) (fAc (fVar 0) (fAc (f2 gSub (fVar 1) (fC (.int 1))) (fAc (fVar 2) fA0)))) (gtName 4)) (fRet (fL gTup (fAc (fC (.str "make")) (fAc (fCall 1 (call 24) (fAc (fVar 0) fA0)) (fAc (fVar 4) fA0)))))) fNext) (fSeq (fIf (fTest (f2 gEq (fVar 3) (fC (.int 7)))) (fRet (fL gTup (fAc (fC (.str "tuple")) (fAc (fL gTupleA (fAc (fLc (fRng rng1 (fAc (f2 gAdd (fC (.int 2)) (fCall 2 (call 12) (fAc (fVar 0) (fAc (fC (.int 2)) fA0)))) fA0)) (gtName 5) fYes (fCall 3 (call 27) (fAc (fVar 0) (fAc (f2 gSub (fVar 1) (fC (.int 1))) (fAc (fVar 2) fA0)))) [5]) fA0)) fA0)))) fNext) (fRet (fL gTup (fAc (fC (.str "record")) (fAc (fL gTupleA (fAc (fLc (fItS (fCall 2 (call 25) (fAc (fVar 0) (fAc (fC (.int 1)) fA0)))) (gtName 6) fYes (fL gTup (fAc (fVar 6) (fAc (fCall 3 (call 27) (fAc (fVar 0) (fAc (f2 gSub (fVar 1) (fC (.int 1))) (fAc (fVar 2) fA0)))) fA0))) [6]) fA0)) fA0))))))))))
theorem sm_list {ns : List PyData} (h : ∀ x ∈ ns, x ∈ NMS) (h5 : ns.length ≤ 5) : Fine (.list ns) :=
  (Sm.list (k := 0) (b := 45) ((Sms.all (k := 0) (b := 8) fun d m => nms_sm (h d m)).mono (Nat.le_refl _) (by omega))).fine (by decide) (by decide)
theorem test_names {d : Nat} {S : Store} {ns : List PyData} (hns : S[m]? = some (.lst ns)) (hm : ∀ x ∈ ns, x ∈ NMS) (h5 : ns.length ≤ 5) :
    fOrT (fTest (f2 gEq (fVar 3) (fC (.int 0)))) (fAndT (fTest (f2 gEq (fVar 3) (fC (.int 1)))) (fTest (f2 gEq (fVar 2) (fL gLst fA0)))) [some (.loc l), some (iw (d : Int)), some (.loc m), some (iw ((1 : Nat) : Int)), none, none, none] S = .ok ns.isEmpty S := by
  have e1 : fTest (f2 gEq (fVar 3) (fC (.int 0))) [some (.loc l), some (iw (d : Int)), some (.loc m), some (iw ((1 : Nat) : Int)), none, none, none] S = .ok false S := rfl
  have e2 : fTest (f2 gEq (fVar 3) (fC (.int 1))) [some (.loc l), some (iw (d : Int)), some (.loc m), some (iw ((1 : Nat) : Int)), none, none, none] S = .ok true S := rfl
  have g : gEq (.loc m) (.d (.list [])) S = some (bt ns.isEmpty, S) := by
    unfold gEq
    rw [show gEqS (.loc m) (.d (.list [])) S = none from rfl]
    show gEqD (.loc m) (.d (.list [])) S = _
    unfold gEqD
    have a1 : asD (.loc m) S = some (.list ns) := by rw [asD]; simp only [hns]
    rw [a1, asD]
    show (if SeqAt.shaped (.list ns) = true ∧ SeqAt.shaped (.list []) = true then some (bt (PyData.eqv (.list ns) (.list [])), S) else none) = _
    rw [if_pos ⟨(sm_list hm h5).sh, rfl⟩]
    cases ns <;> rfl
  have e3 : fTest (f2 gEq (fVar 2) (fL gLst fA0)) [some (.loc l), some (iw (d : Int)), some (.loc m), some (iw ((1 : Nat) : Int)), none, none, none] S = .ok ns.isEmpty S := ev_test (ev_f2 (ev_var rfl) rfl g)
  unfold fOrT fAndT
  rw [e1, R_ok, if_neg (by decide), e2, R_ok, if_pos rfl]
  exact e3
theorem d_number8 (w : Wd) (n : Nat) : DrF w (callN (n + 3) 26) [] 1 (Sm 0 8) := (DrF.of (b := b26 (callN (n + 2))) (k := 1) (fun S => rfl) (DrS.ret (DrE.oneC n (ds := NUM) (Q := Sm 0 8) rfl (fun S => rfl) (by decide) fun y m => by
  simp only [NUM, List.mem_cons, List.not_mem_nil, or_false] at m
  rcases m with h | h | h | h | h | h | h | h | h | h | h <;> (rw [h]; exact Sm.int (by decide)))))
theorem pat_low (d j : Nat) {v : Nat} (hv : v < 5) : DrS (W2 l m hlm) (patR (callN (j + 4))) [some (.loc l), some (iw (d : Int)), some (.loc m), some (iw (v : Int)), none, none, none] 4 (PatP d) := by
  have any : PatP d (.tuple [.str "any"]) := pat_one (by decide +kernel) d
  have hv2 : v = 0 ∨ v = 1 ∨ v = 2 ∨ v = 3 ∨ v = 4 := by omega
  rcases hv2 with rfl | rfl | rfl | rfl | rfl
  · exact DrS.yes (fun S => rfl) (DrS.ret ((DrE.const (w := W2 l m hlm) (x := .tuple [.str "any"]) fun S => rfl).weak (Nat.zero_le _) fun x h => h ▸ any))
  · intro S N hI hN
    obtain ⟨hb, ns, hns, hm, h5⟩ := id hI
    have tt := test_names (l := l) (d := d) hns hm h5
    by_cases he : ns = []
    · subst he
      exact ⟨.tuple [.str "any"], S, take_if tt rfl, any, (W2 l m hlm).mono hI (by omega), (W2 l m hlm).refl S⟩
    · have hp : 0 < ns.length := List.length_pos_iff.mpr he
      obtain ⟨x, S1, e1, m1, i1, k1⟩ := names_pop hlm (j + 3) (ρ := [some (.loc l), some (iw (d : Int)), some (.loc m), some (iw ((1 : Nat) : Int)), none, none, none]) rfl rfl hI (by omega) hns hm h5 hp
      rw [show ns.isEmpty = false from by cases ns; exact absurd rfl he; rfl] at tt
      refine ⟨.tuple [.str "bind", x], S1, (skip_if tt).trans (take_if rfl (ev_ret (ev_L (ws := [sw "bind", .d x]) (ev_ac rfl (ev_one e1)) rfl))), pat_two (by decide +kernel) (nms_sm m1) d, (W2 l m hlm).mono i1 (by omega), k1⟩
  · refine DrS.no (fun S => rfl) (DrS.no (fun S => rfl) (DrS.yes (fun S => rfl) (DrS.ret ?_)))
    refine (DrE.one (w := W2 l m hlm) (j + 2) (c := 1) (Q := PatP d) rfl ((DrE.lst (DrA.cons (DrE.tup (DrA.cons (DrE.const (x := .str "num") fun S => rfl) (DrA.cons (DrE.call (d_number8 (W2 l m hlm) (j + 1)) (fun S => rfl) rfl) DrA.nil)) (fun xs ⟨_, _, e, _, _, _, e2, _, e3⟩ => by rw [e, e2, e3]; exact (by decide : (2 : Nat) ≤ 16777216))) (DrA.cons (DrE.const (x := .tuple [.str "truth", .bool true]) fun S => rfl) (DrA.cons (DrE.const (x := .tuple [.str "truth", .bool false]) fun S => rfl) DrA.nil))) (fun xs ⟨_, _, e, _, _, _, e2, _, _, _, e3, _, e4⟩ => by rw [e, e2, e3, e4]; exact (by decide : (3 : Nat) ≤ 16777216)))) ?_).weak (by decide) fun _ h => h
    rintro x ⟨xs, rfl, a, r, rfl, ⟨as, rfl, b, r2, rfl, rfl, c, r3, rfl, hc, rfl⟩, a2, r4, rfl, rfl, a3, r5, rfl, rfl, rfl⟩
    refine ⟨_, rfl, (by decide : 0 < (3 : Nat) ∧ (3 : Nat) < 1000), fun y my => ?_⟩
    simp only [List.mem_cons, List.not_mem_nil, or_false] at my
    rcases my with rfl | rfl | rfl
    · exact pat_two (by decide +kernel) hc d
    · have := pb_ge d
      exact (Sm.tuple (k := 0) (b := 7) ((Sms.cons (k := 0) (b1 := 5) (d := .str "truth") ⟨by decide +kernel, Nat.zero_le _, by decide +kernel⟩ (Sms.one (Sm.bool (b := 0)))).mono (Nat.le_refl _) (by decide))).mono (by omega) (by omega)
    · have := pb_ge d
      exact (Sm.tuple (k := 0) (b := 7) ((Sms.cons (k := 0) (b1 := 5) (d := .str "truth") ⟨by decide +kernel, Nat.zero_le _, by decide +kernel⟩ (Sms.one (Sm.bool (b := 0)))).mono (Nat.le_refl _) (by decide))).mono (by omega) (by omega)
  · refine DrS.no (fun S => rfl) (DrS.no (fun S => rfl) (DrS.no (fun S => rfl) (DrS.yes (fun S => rfl) (DrS.ret (DrE.ife (k := true) (fun S => rfl) (fun _ => ?_) fun h => by cases h)))))
    refine (DrE.tup (DrA.cons (DrE.const (x := .str "make") fun S => rfl) (DrA.cons (DrE.call (d_maker22 (W2 l m hlm) (j + 1)) (fun S => rfl) rfl) (DrA.cons (DrE.const (x := .none) fun S => rfl) DrA.nil))) (fun xs ⟨_, _, e, _, _, _, e2, _, _, _, e3, _, e4⟩ => by rw [e, e2, e3, e4]; exact (by decide : (3 : Nat) ≤ 16777216))).weak (by decide) ?_
    rintro x ⟨xs, rfl, a, r, rfl, rfl, b, r2, rfl, hb, c, r3, rfl, rfl, rfl⟩
    have := pb_ge d
    exact (pat_make hb (k := 0) (b := 0) ⟨rfl, Nat.zero_le _, Nat.zero_le _⟩).mono (by omega) (by omega)
  · refine DrS.no (fun S => rfl) (DrS.no (fun S => rfl) (DrS.no (fun S => rfl) (DrS.yes (fun S => rfl) (DrS.ret (DrE.ife (k := false) (fun S => rfl) (fun h => by cases h) fun _ => ?_)))))
    refine (DrE.const (w := W2 l m hlm) (x := .tuple [.str "tuple", .tuple []]) fun S => rfl).weak (Nat.zero_le _) fun x h => ?_
    rw [h]
    have := pb_ge d
    exact (Sm.tuple (k := 1) (b := 8) ((Sms.cons (k := 1) (b1 := 6) ((sm_word tuple_word).mono (Nat.zero_le _) (Nat.le_refl _)) (Sms.one (Sm.tuple (k := 0) (b := 0) Sms.nil))).mono (Nat.le_refl _) (by decide))).mono (by omega) (by omega)
theorem d_labels3 (w : Wd) (n : Nat) : DrF w (callN (n + 3) 25) [iw 1] 7 (fun x => ∃ xs, x = .list xs ∧ xs.length ≤ 3 ∧ ∀ y ∈ xs, LB3 y) := d_labelsG w n (by decide +kernel) fun x h => by
  cases x with
  | str s =>
    have h2 : (okc s.cps.toList && decide (s.cps.size ≤ 3)) = true := h
    rw [Bool.and_eq_true, decide_eq_true_eq] at h2
    exact sm_str h2.1 h2.2
  | _ => cases h
theorem sm_rec {k b : Nat} {xs : List PyData} (h : xs.length ≤ 3) (hx : ∀ x ∈ xs, Sm k b x) : Sm (k + 2) (3 * b + 11) (.tuple [.str "tuple", .tuple xs]) := by
  have hm : xs.length * (b + 1) ≤ 3 * (b + 1) := Nat.mul_le_mul_right _ h
  exact Sm.tuple (k := k + 1) ((Sms.cons (k := k + 1) (b1 := 6) ((sm_word tuple_word).mono (Nat.zero_le _) (Nat.le_refl _)) (Sms.one (Sm.tuple (k := k) (b := 3 * b + 3) ((Sms.all hx).mono (Nat.le_refl _) (by omega))))).mono (Nat.le_refl _) (by omega))
def PairP (P Q : PyData → Prop) (x : PyData) : Prop := ∃ a p, x = .tuple [a, p] ∧ P a ∧ Q p
theorem sm_record {k b c : Nat} {xs : List PyData} (h : xs.length ≤ 3) (hx : ∀ x ∈ xs, PairP (Sm 0 c) (Sm k b) x) : Sm (k + 3) (3 * b + 3 * c + 20) (.tuple [.str "record", .tuple xs]) := by
  have hy : ∀ x ∈ xs, Sm (k + 1) (b + c + 2) x := fun x m => by
    obtain ⟨a, p, rfl, ha, hp⟩ := hx x m
    exact Sm.tuple ((Sms.cons (k := k) (b1 := c) (ha.mono (Nat.zero_le _) (Nat.le_refl _)) (Sms.one hp)).mono (Nat.le_refl _) (by omega))
  have hm : xs.length * (b + c + 2 + 1) ≤ 3 * (b + c + 2 + 1) := Nat.mul_le_mul_right _ h
  exact Sm.tuple (k := k + 2) ((Sms.cons (k := k + 2) (b1 := 6) ((sm_word record_word).mono (Nat.zero_le _) (Nat.le_refl _)) (Sms.one (Sm.tuple (k := k + 1) (b := 3 * b + 3 * c + 9) ((Sms.all hy).mono (Nat.le_refl _) (by omega))))).mono (Nat.le_refl _) (by omega))

theorem d_pattern : ∀ (d j : Nat), DrF (W2 l m hlm) (callN (d + 5 + j) 27) [iw (d : Int), .loc m] (cp d) (PatP d) := fun d => by
  induction d with
  | zero =>
    intro j
    rw [show 0 + 5 + j = (j + 4) + 1 by omega]
    refine DrF.of (b := b27 (callN (j + 4))) (k := 7) (fun S => rfl) ?_
    refine (DrS.asg (c1 := 1) (c2 := 4) (P := Way 5) (Q := PatP 0) (DrE.ife (k := false) (fun S => rfl) (fun h => by cases h) fun _ => way_take (W2 l m hlm) (j + 3) (k := 5) rfl (fun S => rfl) (by decide)) fun x hx => ?_).weak (by decide) fun _ h => h
    obtain ⟨v, rfl, hv⟩ := hx
    exact pat_low hlm 0 j hv
  | succ d ih =>
    intro j
    have hj : d + 1 + 5 + j = (d + 1 + j + 4) + 1 := by omega
    have ih' : DrF (W2 l m hlm) (callN (d + 1 + j + 4) 27) [iw (d : Int), .loc m] (cp d) (PatP d) := by
      have := ih j
      rw [show d + 5 + j = d + 1 + j + 4 by omega] at this
      exact this
    rw [hj]
    generalize d + 1 + j = q at ih' ⊢
    have cg := cp_ge d
    have pg := pb_ge d
    have cs : cp (d + 1) = 3 * cp d + 20 := rfl
    have ps : pb (d + 1) = 3 * pb d + 30 := rfl
    have sub : ∀ ρ : Rho, ρ[0]? = some (some (.loc l)) → ρ[1]? = some (some (iw ((d + 1 : Nat) : Int))) → ρ[2]? = some (some (.loc m)) → DrE (W2 l m hlm) (fCall 3 (callN (q + 4) 27) (fAc (fVar 0) (fAc (f2 gSub (fVar 1) (fC (.int 1))) (fAc (fVar 2) fA0)))) ρ (cp d) (PatP d) := fun ρ h0 h1 h2 => by
      refine DrE.call ih' (fun S => ?_) rfl
      have gs : f2 gSub (fVar 1) (fC (.int 1)) ρ S = .ok (iw (d : Int)) S := by
        refine ev_f2 (ev_var h1) rfl ?_
        show some (iw (((d + 1 : Nat) : Int) - 1), S) = _
        rw [show ((d + 1 : Nat) : Int) - 1 = (d : Int) by omega]
      exact ev_ac (ev_var h0) (ev_ac gs (ev_one (ev_var h2)))
    refine DrF.of (b := b27 (callN (q + 4))) (k := 7) (fun S => rfl) ?_
    refine (DrS.asg (c1 := 1) (c2 := 3 * cp d + 15) (P := Way 9) (Q := PatP (d + 1)) (DrE.ife (k := true) (fun S => ?_) (fun _ => way_take (W2 l m hlm) (q + 3) (k := 9) rfl (fun S => rfl) (by decide)) fun h => by cases h) fun x hx => ?_).weak (by omega) fun _ h => h
    · refine ev_test (ev_f2 (ev_var rfl) rfl ?_)
      show some (bt (decide ((0 : Int) < ((d + 1 : Nat) : Int))), S) = _
      rw [decide_eq_true (by omega)]
    obtain ⟨v, rfl, hv⟩ := hx
    by_cases hlow : v < 5
    · exact (pat_low hlm (d + 1) q hlow).weak (by omega) fun _ h => h
    have hv2 : v = 5 ∨ v = 6 ∨ v = 7 ∨ v = 8 := by omega
    rcases hv2 with rfl | rfl | rfl | rfl
    · refine DrS.no (fun S => rfl) (DrS.no (fun S => rfl) (DrS.no (fun S => rfl) (DrS.no (fun S => rfl) (DrS.yes (fun S => rfl) ?_))))
      refine (DrS.asg (c2 := 1) (Q := PatP (d + 1)) (sub _ rfl rfl rfl) fun x hx => DrS.ret ((DrE.tup (DrA.cons (DrE.const (x := .str "make") fun S => rfl) (DrA.cons (DrE.call (d_maker22 (W2 l m hlm) (q + 1)) (fun S => rfl) rfl) (DrA.cons (DrE.const (x := x) fun S => rfl) DrA.nil))) (fun xs ⟨_, _, e, _, _, _, e2, _, _, _, e3, _, e4⟩ => by rw [e, e2, e3, e4]; exact (by decide : (3 : Nat) ≤ 16777216))).weak (by decide) ?_)).weak (by omega) fun _ h => h
      rintro y ⟨xs, rfl, a, r, rfl, rfl, b, r2, rfl, hb, c, r3, rfl, rfl, rfl⟩
      exact (pat_make hb hx).mono (by omega) (by omega)
    · refine DrS.no (fun S => rfl) (DrS.no (fun S => rfl) (DrS.no (fun S => rfl) (DrS.no (fun S => rfl) (DrS.yes (fun S => rfl) ?_))))
      refine (DrS.asg (c2 := 1) (Q := PatP (d + 1)) (sub _ rfl rfl rfl) fun x hx => DrS.ret ((DrE.tup (DrA.cons (DrE.const (x := .str "make") fun S => rfl) (DrA.cons (DrE.call (d_maker22 (W2 l m hlm) (q + 1)) (fun S => rfl) rfl) (DrA.cons (DrE.const (x := x) fun S => rfl) DrA.nil))) (fun xs ⟨_, _, e, _, _, _, e2, _, _, _, e3, _, e4⟩ => by rw [e, e2, e3, e4]; exact (by decide : (3 : Nat) ≤ 16777216))).weak (by decide) ?_)).weak (by omega) fun _ h => h
      rintro y ⟨xs, rfl, a, r, rfl, rfl, b, r2, rfl, hb, c, r3, rfl, rfl, rfl⟩
      exact (pat_make hb hx).mono (by omega) (by omega)
    · refine DrS.no (fun S => rfl) (DrS.no (fun S => rfl) (DrS.no (fun S => rfl) (DrS.no (fun S => rfl) (DrS.no (fun S => rfl) (DrS.yes (fun S => rfl) (DrS.ret ?_))))))
      have cm : DrE (W2 l m hlm) (fLc (fRng rng1 (fAc (f2 gAdd (fC (.int 2)) (fCall 2 (callN (q + 4) 12) (fAc (fVar 0) (fAc (fC (.int 2)) fA0)))) fA0)) (gtName 5) fYes (fCall 3 (callN (q + 4) 27) (fAc (fVar 0) (fAc (f2 gSub (fVar 1) (fC (.int 1))) (fAc (fVar 2) fA0)))) [5]) [some (.loc l), some (iw ((d + 1 : Nat) : Int)), some (.loc m), some (iw ((7 : Nat) : Int)), none, none, none] (1 + 3 * cp d) (fun x => ∃ xs, x = .list xs ∧ xs.length ≤ 3 ∧ ∀ y ∈ xs, PatP d y) := by
        refine DrE.comp (P := PatP d) (Q := fun xs => xs.length ≤ 3 ∧ ∀ y ∈ xs, PatP d y) fun S N hI hN => ?_
        obtain ⟨x, S1, e1, ⟨v, rfl, hv⟩, i1, k1⟩ := way_take (W2 l m hlm) (q + 3) (k := 2) (e := fC (.int 2)) (ρ := [some (.loc l), some (iw ((d + 1 : Nat) : Int)), some (.loc m), some (iw ((7 : Nat) : Int)), none, none, none]) rfl (fun S => rfl) (by decide) S N hI hN
        refine ⟨rangeW 0 (2 + v), fun _ => True, S1, fun _ => trivial, ?_, i1, k1, by rw [rangeW_len]; omega, by decide, fun y my => ⟨_, rfl, sub _ rfl rfl rfl⟩, fun xs hx hp => ⟨by rw [hx, rangeW_len]; omega, hp⟩⟩
        have ea : fAc (f2 gAdd (fC (.int 2)) (fCall 2 (callN (q + 4) 12) (fAc (fVar 0) (fAc (fC (.int 2)) fA0)))) fA0 [some (.loc l), some (iw ((d + 1 : Nat) : Int)), some (.loc m), some (iw ((7 : Nat) : Int)), none, none, none] S = .ok [nt (2 + v)] S1 := by
          refine ev_one (ev_f2 rfl e1 ?_)
          show some (iw (2 + (v : Int)), S1) = some (iw ((2 + v : Nat) : Int), S1)
          rw [show ((2 + v : Nat) : Int) = 2 + (v : Int) by omega]
        unfold fRng
        rw [ea, R_ok]
        exact rng_at (2 + v) (by omega)
      intro S N hI hN
      obtain ⟨x, S1, e1, ⟨xs, rfl, h1, h2⟩, i1, k1⟩ := cm S N hI (by omega)
      refine ⟨.tuple [.str "tuple", .tuple xs], S1, ev_L (ws := [sw "tuple", tu xs]) (ev_ac rfl (ev_one (ev_L (ws := [.d (.list xs)]) (ev_one e1) rfl))) rfl, (sm_rec h1 h2).mono (by omega) (by omega), (W2 l m hlm).mono i1 (by omega), k1⟩
    · refine DrS.no (fun S => rfl) (DrS.no (fun S => rfl) (DrS.no (fun S => rfl) (DrS.no (fun S => rfl) (DrS.no (fun S => rfl) (DrS.no (fun S => rfl) (DrS.ret ?_))))))
      have cm : DrE (W2 l m hlm) (fLc (fItS (fCall 2 (callN (q + 4) 25) (fAc (fVar 0) (fAc (fC (.int 1)) fA0)))) (gtName 6) fYes (fL gTup (fAc (fVar 6) (fAc (fCall 3 (callN (q + 4) 27) (fAc (fVar 0) (fAc (f2 gSub (fVar 1) (fC (.int 1))) (fAc (fVar 2) fA0)))) fA0))) [6]) [some (.loc l), some (iw ((d + 1 : Nat) : Int)), some (.loc m), some (iw ((8 : Nat) : Int)), none, none, none] (7 + 3 * cp d) (fun x => ∃ xs, x = .list xs ∧ xs.length ≤ 3 ∧ ∀ y ∈ xs, PairP LB3 (PatP d) y) := by
        refine DrE.comp (P := PairP LB3 (PatP d)) (Q := fun xs => xs.length ≤ 3 ∧ ∀ y ∈ xs, PairP LB3 (PatP d) y) fun S N hI hN => ?_
        obtain ⟨x, S1, e1, ⟨ls, rfl, hl, hs⟩, i1, k1⟩ := (DrE.call (d_labels3 (W2 l m hlm) (q + 1)) (n := 2) (fa := fAc (fVar 0) (fAc (fC (.int 1)) fA0)) (ρ := [some (.loc l), some (iw ((d + 1 : Nat) : Int)), some (.loc m), some (iw ((8 : Nat) : Int)), none, none, none]) (fun S => rfl) rfl) S N hI hN
        obtain ⟨ok, hok, hit⟩ := it_pure (S := S1) (a := fun _ _ => .ok (.d (.list ls)) S1) (ρ := []) (x := .list ls) rfl (.inl rfl)
        refine ⟨ls.map W.d, ok, S1, hok, ?_, i1, k1, by rw [List.length_map]; exact hl, by decide, fun y my => ?_, fun xs hx hp => ⟨by rw [hx, List.length_map]; exact hl, hp⟩⟩
        · unfold fItS at hit ⊢
          rw [e1]
          exact hit
        · obtain ⟨a, ma, rfl⟩ := List.mem_map.mp my
          refine ⟨[some (.loc l), some (iw ((d + 1 : Nat) : Int)), some (.loc m), some (iw ((8 : Nat) : Int)), none, none, some (.d a)], rfl, ?_⟩
          refine (DrE.tup (DrA.cons (DrE.const (x := a) fun S => rfl) (DrA.cons (sub _ rfl rfl rfl) DrA.nil)) (fun xs ⟨_, _, e, _, _, _, e2, _, e3⟩ => by rw [e, e2, e3]; exact (by decide : (2 : Nat) ≤ 16777216))).weak (by omega) ?_
          rintro z ⟨xs, rfl, a', r, rfl, rfl, p, r2, rfl, hp, rfl⟩
          exact ⟨a', p, rfl, hs a' ma, hp⟩
      intro S N hI hN
      obtain ⟨x, S1, e1, ⟨xs, rfl, h1, h2⟩, i1, k1⟩ := cm S N hI (by omega)
      refine ⟨.tuple [.str "record", .tuple xs], S1, ev_L (ws := [sw "record", tu xs]) (ev_ac rfl (ev_one (ev_L (ws := [.d (.list xs)]) (ev_one e1) rfl))) rfl, (sm_record h1 h2).mono (by omega) (by omega), (W2 l m hlm).mono i1 (by omega), k1⟩
end
end P4
end VI
set_option Elab.async false
set_option linter.all false
set_option maxRecDepth 100000
namespace VI
open PySem PySem.Spec PyProof.Rows L2
namespace P4

def wordB (w : Str) : Bool := okc w.cps.toList && decide (w.cps.size ≤ 6)
def HdOk : Hd → Prop
  | .leaf w d => wordB w = true ∧ Sm0 d
  | .fn x => Sm0 x
  | .lt x => Sm0 x
  | .rc xs => ∀ x ∈ xs, Sm0 x
  | .tup => True
  | .rd xs => ∀ x ∈ xs, Sm0 x
  | .fd x => Sm0 x
  | .mk0 x => Sm0 x
  | .mk1 x => Sm0 x
  | .mt xs => ∀ x ∈ xs, Sm 8 390 x
  | .op x => Sm0 x
  | .fl w => wordB w = true
mutual
def Ok : Tm → Prop
  | .node h ks => HdOk h ∧ Oks ks
def Oks : List Tm → Prop
  | [] => True
  | k :: ks => Ok k ∧ Oks ks
end
theorem oks_mem : ∀ {ks : List Tm}, Oks ks → ∀ k ∈ ks, Ok k
  | [], _, _, m => by cases m
  | k :: ks, ⟨h, hs⟩, k', m => by
    rcases List.mem_cons.mp m with rfl | m
    · exact h
    · exact oks_mem hs k' m
theorem oks_of : ∀ {ks : List Tm}, (∀ k ∈ ks, Ok k) → Oks ks
  | [], _ => trivial
  | k :: ks, h => ⟨h k (by simp), oks_of fun k' m => h k' (by simp [m])⟩
theorem ok_iff {t : Tm} : Ok t ↔ HdOk t.hd ∧ ∀ k ∈ t.kids, Ok k := by
  cases t with
  | node h ks => exact ⟨fun ⟨a, b⟩ => ⟨a, oks_mem b⟩, fun ⟨a, b⟩ => ⟨a, oks_of b⟩⟩
/-- a value that encodes a good term, not high -/
def TPH (m : Nat) (x : PyData) : Prop := ∃ t, x = enc t ∧ Wf t ∧ Ok t ∧ ht t ≤ m
theorem TPH.mono {m n : Nat} {x : PyData} (h : TPH m x) (hm : m ≤ n) : TPH n x := by
  obtain ⟨t, a, b, c, d⟩ := h
  exact ⟨t, a, b, c, by omega⟩
theorem tms_of {m : Nat} : ∀ {xs : List PyData}, (∀ x ∈ xs, TPH m x) → ∃ ts : List Tm, xs = ts.map enc ∧ (∀ t ∈ ts, Wf t ∧ Ok t ∧ ht t ≤ m)
  | [], _ => ⟨[], rfl, fun _ h => by cases h⟩
  | x :: xs, h => by
    obtain ⟨t, rfl, b⟩ := h x (by simp)
    obtain ⟨ts, rfl, c⟩ := tms_of (xs := xs) fun y my => h y (by simp [my])
    exact ⟨t :: ts, rfl, fun u mu => by
      rcases List.mem_cons.mp mu with rfl | mu
      · exact b
      · exact c u mu⟩
theorem tp_node {h : Hd} {xs : List PyData} {m : Nat} (hf : fits h xs.length) (h10 : xs.length ≤ 4) (ho : HdOk h) (hx : ∀ x ∈ xs, TPH m x) : TPH (m + 1) (encN h xs) := by
  obtain ⟨ts, rfl, ht_⟩ := tms_of hx
  rw [List.length_map] at hf h10
  refine ⟨.node h ts, (enc_node h ts).symm, ⟨⟨hf, h10⟩, wfs_of fun k mk => (ht_ k mk).1⟩, ⟨ho, oks_of fun k mk => (ht_ k mk).2.1⟩, ?_⟩
  rw [ht]
  have := hts_le (ks := ts) (n := m) fun k mk => (ht_ k mk).2.2
  omega
theorem mem2 {a b : PyData} {P : PyData → Prop} (ha : P a) (hb : P b) : ∀ x ∈ [a, b], P x := fun x m => by
  simp only [List.mem_cons, List.not_mem_nil, or_false] at m
  rcases m with rfl | rfl
  · exact ha
  · exact hb
theorem mem1 {a : PyData} {P : PyData → Prop} (ha : P a) : ∀ x ∈ [a], P x := fun x m => by rw [List.mem_singleton.mp m]; exact ha
theorem unpair {P Q : PyData → Prop} : ∀ {ys : List PyData}, (∀ y ∈ ys, PairP P Q y) → ∃ xs ks, ys = pairs xs ks ∧ xs.length = ys.length ∧ ks.length = ys.length ∧ (∀ x ∈ xs, P x) ∧ ∀ k ∈ ks, Q k
  | [], _ => ⟨[], [], rfl, rfl, rfl, (fun _ h => by cases h), fun _ h => by cases h⟩
  | y :: ys, h => by
    obtain ⟨a, p, rfl, ha, hp⟩ := h y (by simp)
    obtain ⟨xs, ks, rfl, l1, l2, h1, h2⟩ := unpair (ys := ys) fun z mz => h z (by simp [mz])
    refine ⟨a :: xs, p :: ks, rfl, by rw [List.length_cons, List.length_cons, l1], by rw [List.length_cons, List.length_cons, l2], fun x mx => ?_, fun k mk => ?_⟩
    · rcases List.mem_cons.mp mx with rfl | mx
      · exact ha
      · exact h1 x mx
    · rcases List.mem_cons.mp mk with rfl | mk
      · exact hp
      · exact h2 k mk
def ct : Nat → Nat
  | 0 => 10
  | d + 1 => 7 * ct d + 600
theorem ct_ge (d : Nat) : 10 ≤ ct d := by cases d <;> simp only [ct] <;> omega
theorem ct_mono : ∀ {d e : Nat}, d ≤ e → ct d ≤ ct e
  | d, 0, h => by rw [show d = 0 by omega]; exact Nat.le_refl _
  | d, e + 1, h => by
    by_cases q : d = e + 1
    · subst q; exact Nat.le_refl _
    · have := ct_mono (show d ≤ e by omega)
      rw [show ct (e + 1) = 7 * ct e + 600 from rfl]
      omega
/-- a call that leaves live objects behind -/
theorem DrE.callG {w : Wd} {n : Nat} {g : List W → Store → R W} {fa : FA} {ρ : Rho} {c : Nat} {args : List W} {P : PyData → Prop} (h : ∀ (S : Store) (N : Nat), w.I N S → N + c < 2 ^ 58 → ∃ x S', g (.loc w.l :: args) S = .ok (.d x) S' ∧ P x ∧ w.I (N + c) (S'.take S.length) ∧ w.K S (S'.take S.length)) (ha : ∀ S, fa ρ S = .ok (.loc w.l :: args) S) (hn : args.length + 1 = n) : DrE w (fCall n g fa) ρ c P := fun S N hI hN => by
  obtain ⟨x, S1, e1, p1, i1, k1⟩ := h S N hI hN
  exact ⟨x, S1.take S.length, ev_cd (ha S) e1 (by rw [List.length_cons]; exact hn), p1, i1, k1⟩
section
variable {l : Nat}
noncomputable abbrev rowB (call : Calls) : FS := (fSeq (fAsg (fL gLive (fAc (fC (.str "x")) (fAc (fC (.str "y")) (fAc (fC (.str "f")) (fAc (fC (.str "v0")) (fAc (fC (.str "g")) fA0)))))) (gtName 4)) (fDrop (fMeth mAppend (fVar 2) (fAc (fL gTup (fAc (fCall 3 (call 27) (fAc (fVar 0) (fAc (fC (.int 2)) (fAc (fVar 4) fA0)))) (fAc (fCall 2 (call 30) (fAc (fVar 0) (fAc (fL gMax2 (fAc (fC (.int 0)) (fAc (f2 gSub (fVar 1) (fC (.int 2))) fA0))) fA0))) fA0))) fA0))))
/-- rows of a match -/
def RowsI (l r : Nat) (S0 : Store) (m : Nat) (j N : Nat) (S : Store) : Prop := BG S l N ∧ (∃ acc, S[r]? = some (.lst acc) ∧ acc.length = j ∧ ∀ y ∈ acc, PairP (PatP 2) (TPH m) y) ∧ ∀ i, i < S0.length → i ≠ l → S[i]? = S0[i]?
theorem row_step {q d m c j N : Nat} {S0 S : Store} {o : Option W} {a4 : Option W} (hq : DrF (W1 l) (callN (q + 7) 30) [iw ((d - 2 : Nat) : Int)] c (TPH m)) (hl : l < S0.length) (h : RowsI l S0.length S0 m j N S) (hj : j < 1000) (hN : N + (200 + c) < 2 ^ 58) :
    ∃ b4 S', rowB (callN (q + 7)) [some (.loc l), some (iw (d : Int)), some (.loc S0.length), o, a4] S = .next [some (.loc l), some (iw (d : Int)), some (.loc S0.length), o, b4] S' ∧ RowsI l S0.length S0 m (j + 1) (N + (200 + c)) S' := by
  obtain ⟨hb, ⟨acc, hS, hlen, hP⟩, same⟩ := h
  have hr := (List.getElem?_eq_some_iff.mp hS).1
  have hlm : S.length ≠ l := by omega
  have i2 : (W2 l S.length hlm).I N (S ++ [.lst NMS]) := ⟨hb.push _, NMS, by rw [List.getElem?_append_right (Nat.le_refl _), Nat.sub_self]; rfl, fun _ h => h, by decide⟩
  obtain ⟨p, S1, e1, p1, ⟨b1, _⟩, k1⟩ := d_pattern hlm 2 q (S ++ [.lst NMS]) N i2 (by show N + 170 < _; omega)
  obtain ⟨t, S2, e2, p2, b2, k2⟩ := hq S1 (N + cp 2) b1 (by show N + 170 + c < _; omega)
  have c2 : cp 2 = 170 := rfl
  have l1 : S1.length = S.length + 1 := by rw [k1.1, List.length_append]; rfl
  have l2 : S2.length = S.length + 1 := by rw [k2.1, l1]
  have hS2 : S2[S0.length]? = some (.lst acc) := by rw [k2.2 _ (by omega), k1.2 _ (by omega) (by omega), List.getElem?_append_left hr]; exact hS
  refine ⟨some (.loc S.length), S2.set S0.length (.lst (acc ++ [.tuple [p, t]])), ?_, (b2.setne (by omega)).mono (by omega), ⟨acc ++ [.tuple [p, t]], at_set hS2, by rw [List.length_append, List.length_singleton, hlen], fun y my => ?_⟩, fun i hi hil => ?_⟩
  · refine (ev_seq (ρ1 := [some (.loc l), some (iw (d : Int)), some (.loc S0.length), o, some (.loc S.length)]) (S1 := S ++ [.lst NMS]) (ev_asg rfl)).trans ?_
    have f27 : fCall 3 (callN (q + 7) 27) (fAc (fVar 0) (fAc (fC (.int 2)) (fAc (fVar 4) fA0))) [some (.loc l), some (iw (d : Int)), some (.loc S0.length), o, some (.loc S.length)] (S ++ [.lst NMS]) = .ok (.d p) S1 := by
      have e1' : callN (q + 7) 27 [.loc l, iw 2, .loc S.length] (S ++ [.lst NMS]) = .ok (.d p) S1 := by
        rw [show q + 7 = 2 + 5 + q by omega]
        exact e1
      exact fcall_at (ws := [.loc l, iw 2, .loc S.length]) (ev_ac (ev_var rfl) (ev_ac rfl (ev_one (ev_var rfl)))) e1' k1.1 rfl
    have mx : fL gMax2 (fAc (fC (.int 0)) (fAc (f2 gSub (fVar 1) (fC (.int 2))) fA0)) [some (.loc l), some (iw (d : Int)), some (.loc S0.length), o, some (.loc S.length)] S1 = .ok (iw ((d - 2 : Nat) : Int)) S1 := by
      refine ev_L (ws := [iw 0, iw ((d : Int) - 2)]) (ev_ac rfl (ev_one (ev_f2 (ev_var rfl) rfl rfl))) ?_
      show some (iw (if (d : Int) - 2 > 0 then (d : Int) - 2 else 0), S1) = _
      rw [show (if (d : Int) - 2 > 0 then (d : Int) - 2 else 0) = ((d - 2 : Nat) : Int) by split <;> omega]
    have f30 : fCall 2 (callN (q + 7) 30) (fAc (fVar 0) (fAc (fL gMax2 (fAc (fC (.int 0)) (fAc (f2 gSub (fVar 1) (fC (.int 2))) fA0))) fA0)) [some (.loc l), some (iw (d : Int)), some (.loc S0.length), o, some (.loc S.length)] S1 = .ok (.d t) S2 :=
      fcall_at (ws := [.loc l, iw ((d - 2 : Nat) : Int)]) (ev_ac (ev_var rfl) (ev_one mx)) e2 k2.1 rfl
    have tu2 : fL gTup (fAc (fCall 3 (callN (q + 7) 27) (fAc (fVar 0) (fAc (fC (.int 2)) (fAc (fVar 4) fA0)))) (fAc (fCall 2 (callN (q + 7) 30) (fAc (fVar 0) (fAc (fL gMax2 (fAc (fC (.int 0)) (fAc (f2 gSub (fVar 1) (fC (.int 2))) fA0))) fA0))) fA0)) [some (.loc l), some (iw (d : Int)), some (.loc S0.length), o, some (.loc S.length)] (S ++ [.lst NMS]) = .ok (tu [p, t]) S2 :=
      ev_L (ws := [.d p, .d t]) (ev_ac f27 (ev_one f30)) rfl
    have live : liveB (.loc S0.length) (S ++ [.lst NMS]) = true := by
      simp only [liveB, List.getElem?_append_left hr, hS]
    refine ev_drop (ev_meth (ws := [tu [p, t]]) (z := .d .none) (ev_var rfl) live (ev_one tu2) ?_)
    unfold mAppend
    simp only [hS2]
    rw [if_pos (show acc.length < lim by show _ < 16777216; omega)]
  · rcases List.mem_append.mp my with my | my
    · exact hP y my
    · rw [List.mem_singleton.mp my]
      exact ⟨p, t, rfl, p1, p2⟩
  · rw [List.getElem?_set_ne (by omega), k2.2 i hil, k1.2 i hil (by omega), List.getElem?_append_left (by omega)]
    exact same i hi hil
theorem row_loop {q d m c : Nat} {S0 : Store} (hq : DrF (W1 l) (callN (q + 7) 30) [iw ((d - 2 : Nat) : Int)] c (TPH m)) (hl : l < S0.length) : ∀ (ws : List W) (j N : Nat) (S : Store) (a3 a4 : Option W), RowsI l S0.length S0 m j N S → j + ws.length < 1000 → N + ws.length * (200 + c) < 2 ^ 58 →
    ∃ b3 b4 S', forL (fun _ => True) (gtName 3) (rowB (callN (q + 7))) ws [some (.loc l), some (iw (d : Int)), some (.loc S0.length), a3, a4] S = .next [some (.loc l), some (iw (d : Int)), some (.loc S0.length), b3, b4] S' ∧ RowsI l S0.length S0 m (j + ws.length) (N + ws.length * (200 + c)) S'
  | [], j, N, S, a3, a4, h, _, _ => ⟨a3, a4, S, by simp only [forL, if_true], by simpa using h⟩
  | x :: ws, j, N, S, a3, a4, h, hj, hN => by
    rw [List.length_cons] at hj hN
    rw [Nat.succ_mul] at hN
    obtain ⟨c4, S1, e1, h1⟩ := row_step (o := some x) (a4 := a4) hq hl h (by omega) (by omega)
    obtain ⟨b3, b4, S2, e2, h2⟩ := row_loop hq hl ws (j + 1) (N + (200 + c)) S1 (some x) c4 h1 (by omega) (by omega)
    refine ⟨b3, b4, S2, ?_, ?_⟩
    · rw [forL, if_pos trivial]
      show (match rowB _ [some (.loc l), some (iw (d : Int)), some (.loc S0.length), some x, a4] S with | .next ρ2 S2 => forL _ _ _ _ ρ2 S2 | .cnt ρ2 S2 => _ | .brk ρ2 S2 => _ | r => r) = _
      rw [e1]
      exact e2
    · rw [List.length_cons, Nat.succ_mul, show j + (ws.length + 1) = j + 1 + ws.length by omega, show N + (ws.length * (200 + c) + (200 + c)) = N + (200 + c) + ws.length * (200 + c) by omega]
      exact h2
def RowsP (m : Nat) (x : PyData) : Prop := ∃ ys, x = .tuple ys ∧ ys.length ≤ 3 ∧ ∀ y ∈ ys, PairP (PatP 2) (TPH m) y
theorem d_rows {q d m c : Nat} (hq : DrF (W1 l) (callN (q + 7) 30) [iw ((d - 2 : Nat) : Int)] c (TPH m)) : ∀ (S : Store) (N : Nat), (W1 l).I N S → N + (1 + 3 * (200 + c)) < 2 ^ 58 → ∃ x S', callN (q + 8) 29 [.loc l, iw (d : Int)] S = .ok (.d x) S' ∧ RowsP m x ∧ (W1 l).I (N + (1 + 3 * (200 + c))) (S'.take S.length) ∧ (W1 l).K S (S'.take S.length) := by
  intro S N hI hN
  have hl : l < S.length := BG.lt hI
  obtain ⟨v, S1, e1, hv, b1, k1⟩ := (W1 l).tk (q + 6) (m := 3) ((W1 l).push (.lst []) hI) (by omega) (by decide)
  obtain ⟨k, hk, hk3⟩ : ∃ k : Nat, 1 + v = (k : Int) ∧ k ≤ 3 := ⟨(1 + v).toNat, by omega, by omega⟩
  have hmul : k * (200 + c) ≤ 3 * (200 + c) := Nat.mul_le_mul_right _ hk3
  have l1 : S1.length = S.length + 1 := by rw [k1.1, List.length_append]; rfl
  have start : RowsI l S.length S m 0 (N + 1) S1 := ⟨b1, ⟨[], by rw [k1.2 _ (by omega), List.getElem?_append_right (Nat.le_refl _), Nat.sub_self]; rfl, rfl, fun _ h => by cases h⟩, fun i hi hil => by rw [k1.2 i hil, List.getElem?_append_left hi]⟩
  obtain ⟨b3, b4, S2, e2, hb2, ⟨acc, hS2, hlen, hP⟩, same⟩ := row_loop (d := d) hq hl (rangeW 0 k) 0 (N + 1) S1 none none start (by rw [rangeW_len]; omega) (by rw [rangeW_len]; omega)
  rw [rangeW_len] at hb2 hlen
  refine ⟨.tuple acc, S2, ?_, ⟨acc, rfl, by omega, hP⟩, (BG.take (hb2.mono (by omega)) hl), ?_⟩
  · show toR (b29 (callN (q + 7)) [some (.loc l), some (iw (d : Int)), none, none, none] S) = _
    unfold b29
    refine ret_ok ((ev_seq (ρ1 := [some (.loc l), some (iw (d : Int)), some (.loc S.length), none, none]) (S1 := S ++ [.lst []]) (ev_asg rfl)).trans ?_)
    have f12 : fCall 2 (callN (q + 7) 12) (fAc (fVar 0) (fAc (fC (.int 3)) fA0)) [some (.loc l), some (iw (d : Int)), some (.loc S.length), none, none] (S ++ [.lst []]) = .ok (iw v) S1 := fcall_at (ws := [.loc l, iw 3]) (ev_ac (ev_var rfl) (ev_one rfl)) e1 k1.1 rfl
    have ea : fAc (f2 gAdd (fC (.int 1)) (fCall 2 (callN (q + 7) 12) (fAc (fVar 0) (fAc (fC (.int 3)) fA0)))) fA0 [some (.loc l), some (iw (d : Int)), some (.loc S.length), none, none] (S ++ [.lst []]) = .ok [nt k] S1 := by
      refine ev_one (ev_f2 rfl f12 ?_)
      show some (iw (1 + v), S1) = _
      rw [hk]
    refine (ev_seq (ρ1 := [some (.loc l), some (iw (d : Int)), some (.loc S.length), b3, b4]) (S1 := S2) ?_).trans ?_
    · unfold fFor fRng
      rw [ea, R_ok, rng_at k (by omega), toS_ok]
      exact e2
    · refine ev_ret (ev_L (ws := [.loc S.length]) (ev_one (ev_var rfl)) ?_)
      show gTuple [.loc S.length] S2 = _
      simp only [gTuple, asSeq, hS2]
  · refine ⟨?_, fun i hi => ?_⟩
    · have : S.length ≤ S2.length := Nat.le_of_lt (List.getElem?_eq_some_iff.mp hS2).1
      rw [List.length_take]
      omega
    · by_cases h3 : i < S.length
      · rw [List.getElem?_take_of_lt h3, same i h3 hi]
      · rw [List.getElem?_eq_none (by rw [List.length_take]; omega), List.getElem?_eq_none (by omega)]
end
end P4
end VI
set_option Elab.async false
set_option linter.all false
set_option maxRecDepth 100000
namespace VI
open PySem PySem.Spec PyProof.Rows L2
namespace P4

section
variable {w : Wd} {ρ : Rho} {c1 c2 c3 c4 : Nat} {P1 P2 P3 P4 Q : PyData → Prop} {e1 e2 e3 e4 : FE}
theorem DrE.tup2 (h1 : DrE w e1 ρ c1 P1) (h2 : DrE w e2 ρ c2 P2) (hq : ∀ a b, P1 a → P2 b → Q (.tuple [a, b])) : DrE w (fL gTup (fAc e1 (fAc e2 fA0))) ρ (c1 + c2) Q :=
  (DrE.tup (DrA.cons h1 (DrA.cons h2 DrA.nil)) (fun xs ⟨_, _, e, _, _, _, e2, _, e3⟩ => by rw [e, e2, e3]; exact (by decide : (2 : Nat) ≤ 16777216))).weak (by omega) fun x ⟨xs, hx, a, r, e, pa, b, r2, e2, pb, e3⟩ => by
    rw [hx, e, e2, e3]; exact hq a b pa pb
theorem DrE.tup3 (h1 : DrE w e1 ρ c1 P1) (h2 : DrE w e2 ρ c2 P2) (h3 : DrE w e3 ρ c3 P3) (hq : ∀ a b c, P1 a → P2 b → P3 c → Q (.tuple [a, b, c])) : DrE w (fL gTup (fAc e1 (fAc e2 (fAc e3 fA0)))) ρ (c1 + (c2 + c3)) Q :=
  (DrE.tup (DrA.cons h1 (DrA.cons h2 (DrA.cons h3 DrA.nil))) (fun xs ⟨_, _, e, _, _, _, e2, _, _, _, e3, _, e4⟩ => by rw [e, e2, e3, e4]; exact (by decide : (3 : Nat) ≤ 16777216))).weak (by omega) fun x ⟨xs, hx, a, r, e, pa, b, r2, e2, pb, c, r3, e3, pc, e4⟩ => by
    rw [hx, e, e2, e3, e4]; exact hq a b c pa pb pc
theorem DrE.tup4 (h1 : DrE w e1 ρ c1 P1) (h2 : DrE w e2 ρ c2 P2) (h3 : DrE w e3 ρ c3 P3) (h4 : DrE w e4 ρ c4 P4) (hq : ∀ a b c d, P1 a → P2 b → P3 c → P4 d → Q (.tuple [a, b, c, d])) : DrE w (fL gTup (fAc e1 (fAc e2 (fAc e3 (fAc e4 fA0))))) ρ (c1 + (c2 + (c3 + c4))) Q :=
  (DrE.tup (DrA.cons h1 (DrA.cons h2 (DrA.cons h3 (DrA.cons h4 DrA.nil)))) (fun xs ⟨_, _, e, _, _, _, e2, _, _, _, e3, _, _, _, e4, _, e5⟩ => by rw [e, e2, e3, e4, e5]; exact (by decide : (4 : Nat) ≤ 16777216))).weak (by omega) fun x ⟨xs, hx, a, r, e, pa, b, r2, e2, pb, c, r3, e3, pc, d, r4, e4, pd, e5⟩ => by
    rw [hx, e, e2, e3, e4, e5]; exact hq a b c d pa pb pc pd
theorem DrE.lst4 (h1 : DrE w e1 ρ c1 P1) (h2 : DrE w e2 ρ c2 P2) (h3 : DrE w e3 ρ c3 P3) (h4 : DrE w e4 ρ c4 P4) (hq : ∀ a b c d, P1 a → P2 b → P3 c → P4 d → Q (.list [a, b, c, d])) : DrE w (fL gLst (fAc e1 (fAc e2 (fAc e3 (fAc e4 fA0))))) ρ (c1 + (c2 + (c3 + c4))) Q :=
  (DrE.lst (DrA.cons h1 (DrA.cons h2 (DrA.cons h3 (DrA.cons h4 DrA.nil)))) (fun xs ⟨_, _, e, _, _, _, e2, _, _, _, e3, _, _, _, e4, _, e5⟩ => by rw [e, e2, e3, e4, e5]; exact (by decide : (4 : Nat) ≤ 16777216))).weak (by omega) fun x ⟨xs, hx, a, r, e, pa, b, r2, e2, pb, c, r3, e3, pc, d, r4, e4, pd, e5⟩ => by
    rw [hx, e, e2, e3, e4, e5]; exact hq a b c d pa pb pc pd
end
theorem tp1 {h : Hd} {x : PyData} {m : Nat} (hf : fits h 1) (ho : HdOk h) (hx : TPH m x) : TPH (m + 1) (encN h [x]) := tp_node (xs := [x]) hf (by show 1 ≤ 4; decide) ho (mem1 hx)
theorem tp2 {h : Hd} {x y : PyData} {m : Nat} (hf : fits h 2) (ho : HdOk h) (hx : TPH m x) (hy : TPH m y) : TPH (m + 1) (encN h [x, y]) := tp_node (xs := [x, y]) hf (by show 2 ≤ 4; decide) ho (mem2 hx hy)
theorem leaf_tp {wd : Str} {x : PyData} {m : Nat} (hw : wd = "name" ∨ wd = "num" ∨ wd = "truth") (hx : Sm0 x) : TPH (m + 1) (.tuple [.str wd, x]) := by
  have hb : wordB wd = true := by rcases hw with rfl | rfl | rfl <;> decide +kernel
  exact tp_node (h := .leaf wd x) (xs := []) ⟨rfl, hw⟩ (by decide) ⟨hb, hx⟩ (fun _ h => by cases h)
theorem make0_tp {x : PyData} {m : Nat} (hx : Sm0 x) : TPH (m + 1) (.tuple [.str "make", x, .none]) := tp_node (h := .mk0 x) (xs := []) rfl (by decide) hx (fun _ h => by cases h)
theorem unit_tp {m : Nat} : TPH (m + 1) (.tuple [.str "tuple", .tuple []]) := tp_node (h := .tup) (xs := []) trivial (by decide) trivial (fun _ h => by cases h)
section
variable {l : Nat}
noncomputable abbrev termR (call : Calls) : FS := (fSeq (fIf (fTest (f2 gLt (fVar 2) (fC (.int 2)))) (fRet (fL gTup (fAc (fC (.str "name")) (fAc (fCall 1 (call 22) (fAc (fVar 0) fA0)) fA0)))) fNext) (fSeq (fIf (fTest (f2 gLt (fVar 2) (fC (.int 5)))) (fSeq (fAsg (fL gLst (fAc (fL gTup (fAc (fC (.str "num")) (fAc (fCall 1 (call 26) (fAc (fVar 0) fA0)) fA0))) (fAc (fL gTup (fAc (fC (.str "truth")) (fAc (f2 gEq (fVar 2) (fC (.int 3))) fA0))) (fAc (fL gTup (fAc (fC (.str "make")) (fAc (fCall 1 (call 24) (fAc (fVar 0) fA0)) (fAc (fC .none) fA0)))) (fAc (fL gTup (fAc (fC (.str "tuple")) (fAc (fL gTup fA0) fA0))) fA0))))) (gtName 3)) (fRet (fCall 2 (call 13) (fAc (fVar 0) (fAc (fVar 3) fA0))))) fNext) (fSeq (fIf (fTest (f2 gEq (fVar 2) (fC (.int 5)))) (fRet (fCall 2 (call 28) (fAc (fVar 0) (fAc (fVar 1) fA0)))) fNext) (fSeq (fIf (fTest (f2 gLt (fVar 2) (fC (.int 8)))) (fRet (fL gTup (fAc (fC (.str "call")) (fAc (fCall 2 (call 30) (fAc (fVar 0) (fAc (f2 gSub (fVar 1) (fC (.int 1))) fA0))) (fAc (fCall 2 (call 30) (fAc (fVar 0) (fAc (f2 gSub (fVar 1) (fC (.int 1))) fA0))) fA0))))) fNext) (fSeq (fIf (fTest (f2 gEq (fVar 2) (fC (.int 8)))) (fRet (fL gTup (fAc (fC (.str "let")) (fAc (fCall 1 (call 22) (fAc (fVar 0) fA0)) (fAc (fCall 2 (call 30) (fAc (fVar 0) (fAc (f2 gSub (fVar 1) (fC (.int 1))) fA0))) (fAc (fCall 2 (call 30) (fAc (fVar 0) (fAc (f2 gSub (fVar 1) (fC (.int 1))) fA0))) fA0)))))) fNext) (fSeq (fIf (fTest (f2 gEq (fVar 2) (fC (.int 9)))) (fSeq (fAsg (fSl gSlA (fCall 2 (call 14) (fAc (fVar 0) (fAc (fL gLst (fAc (fC (.str "f")) (fAc (fC (.str "g")) (fAc (fC (.str "x")) (fAc (fC (.str "M.x")) (fAc (fC (.str "v1")) fA0)))))) fA0))) fNoPart (fPart (f2 gAdd (fC (.int 1)) (fCall 2 (call 12) (fAc (fVar 0) (fAc (fC (.int 2)) fA0)))))) (gtName 4)) (fRet (fL gTup (fAc (fC (.str "rec")) (fAc (fL gTupleA (fAc (fLc (fItS (fVar 4)) (gtName 5) fYes (fL gTup (fAc (fVar 5) (fAc (fCall 2 (call 28) (fAc (fVar 0) (fAc (fVar 1) fA0))) fA0))) [5]) fA0)) (fAc (fCall 2 (call 30) (fAc (fVar 0) (fAc (f2 gSub (fVar 1) (fC (.int 1))) fA0))) fA0)))))) fNext) (fSeq (fIf (fTest (f2 gEq (fVar 2) (fC (.int 10)))) (fRet (f2 gAdd (fL gTup (fAc (fC (.str "if")) fA0)) (fL gTupleA (fAc (fLc (fRng rng1 (fAc (fC (.int 3)) fA0)) (gtName 6) fYes (fCall 2 (call 30) (fAc (fVar 0) (fAc (fL gMax2 (fAc (fC (.int 0)) (fAc (f2 gSub (fVar 1) (fC (.int 2))) fA0))) fA0))) [6]) fA0)))) fNext) (fSeq (fIf (fTest (f2 gEq (fVar 2) (fC (.int 11)))) (fRet (fL gTup (fAc (fC (.str "tuple")) (fAc (fL gTupleA (fAc (fLc (fRng rng1 (fAc (f2 gAdd (fC (.int 2)) (fCall 2 (call 12) (fAc (fVar 0) (fAc (fC (.int 2)) fA0)))) fA0)) (gtName 6) fYes (fCall 2 (call 30) (fAc (fVar 0) (fAc (fL gMax2 (fAc (fC (.int 0)) (fAc (f2 gSub (fVar 1) (fC (.int 2))) fA0))) fA0))) [6]) fA0)) fA0)))) fNext) (fSeq (fIf (fTest (f2 gEq (fVar 2) (fC (.int 12)))) (fSeq (fAsg (fCall 2 (call 25) (fAc (fVar 0) (fAc (fC (.int 1)) fA0))) (gtName 7)) (fRet (fL gTup (fAc (fC (.str "record")) (fAc (fL gTupleA (fAc (fLc (fItS (fVar 7)) (gtName 8) fYes (fL gTup (fAc (fVar 8) (fAc (fCall 2 (call 30) (fAc (fVar 0) (fAc (fL gMax2 (fAc (fC (.int 0)) (fAc (f2 gSub (fVar 1) (fC (.int 2))) fA0))) fA0))) fA0))) [8]) fA0)) fA0))))) fNext) (fSeq (fIf (fTest (f2 gLt (fVar 2) (fC (.int 15)))) (fRet (fL gTup (fAc (fC (.str "field")) (fAc (fCall 2 (call 30) (fAc (fVar 0) (fAc (f2 gSub (fVar 1) (fC (.int 1))) fA0))) (fAc (fCall 2 (call 13) (fAc (fVar 0) (fAc (fL gLst (fAc (fC (.str "a")) (fAc (fC (.str "b")) (fAc (fC (.str "num")) fA0)))) fA0))) fA0))))) fNext) (fSeq (fIf (fTest (f2 gLt (fVar 2) (fC (.int 17)))) (fRet (fL gTup (fAc (fC (.str "make")) (fAc (fCall 1 (call 24) (fAc (fVar 0) fA0)) (fAc (fCall 2 (call 30) (fAc (fVar 0) (fAc (f2 gSub (fVar 1) (fC (.int 1))) fA0))) fA0))))) fNext) (fSeq (fIf (fTest (f2 gEq (fVar 2) (fC (.int 17)))) (fRet (fL gTup (fAc (fC (.str "match")) (fAc (fCall 2 (call 30) (fAc (fVar 0) (fAc (f2 gSub (fVar 1) (fC (.int 1))) fA0))) (fAc (fCall 2 (call 29) (fAc (fVar 0) (fAc (fVar 1) fA0))) fA0))))) fNext) (fSeq (fIf (fTest (f2 gEq (fVar 2) (fC (.int 18)))) (fRet (fL gTup (fAc (fCall 2 (call 13) (fAc (fVar 0) (fAc (fL gLst (fAc (fC (.str "new")) (fAc (fC (.str "get")) (fAc (fC (.str "tell")) fA0)))) fA0))) (fAc (fCall 2 (call 30) (fAc (fVar 0) (fAc (f2 gSub (fVar 1) (fC (.int 1))) fA0))) fA0)))) fNext) (fSeq (fIf (fTest (f2 gEq (fVar 2) (fC (.int 19)))) (fRet (fL gTup (fAc (fC (.str "put")) (fAc (fCall 2 (call 30) (fAc (fVar 0) (fAc (f2 gSub (fVar 1) (fC (.int 1))) fA0))) (fAc (fCall 2 (call 30) (fAc (fVar 0) (fAc (f2 gSub (fVar 1) (fC (.int 1))) fA0))) fA0))))) fNext) (fSeq (fAsg (fCall 2 (call 13) (fAc (fVar 0) (fAc (fL gLst (fAc (fC (.str "+")) (fAc (fC (.str "-")) (fAc (fC (.str "*")) (fAc (fC (.str "<")) (fAc (fC (.str "=")) fA0)))))) fA0))) (gtName 9)) (fRet (fL gTup (fAc (fC (.str "op")) (fAc (fVar 9) (fAc (fCall 2 (call 30) (fAc (fVar 0) (fAc (f2 gSub (fVar 1) (fC (.int 1))) fA0))) (fAc (fCall 2 (call 30) (fAc (fVar 0) (fAc (f2 gSub (fVar 1) (fC (.int 1))) fA0))) fA0)))))))))))))))))))))
theorem four {a b c e : PyData} {P : PyData → Prop} (ha : P a) (hb : P b) (hc : P c) (he : P e) : ∀ y ∈ [a, b, c, e], P y := fun y my => by
  simp only [List.mem_cons, List.not_mem_nil, or_false] at my
  rcases my with rfl | rfl | rfl | rfl
  · exact ha
  · exact hb
  · exact hc
  · exact he
/-- a comprehension over so many numbers -/
theorem comp_rng {w : Wd} {ρ : Rho} {e : FE} {c1 c m i : Nat} {el : FE} {P : PyData → Prop} (he : DrE w e ρ c1 (Way (m + 1))) (hm : m < 900) (hel : ∀ x, DrE w el ((wipeR ρ [i]).set i (some x)) c P) : DrE w (fLc (fRng rng1 (fAc e fA0)) (gtName i) fYes el [i]) ρ (c1 + m * c) (fun x => ∃ xs, x = .list xs ∧ xs.length ≤ m ∧ ∀ y ∈ xs, P y) := by
  refine DrE.comp (P := P) (Q := fun xs => xs.length ≤ m ∧ ∀ y ∈ xs, P y) fun S N hI hN => ?_
  obtain ⟨x, S1, e1, ⟨v, rfl, hv⟩, i1, k1⟩ := he S N hI hN
  refine ⟨rangeW 0 v, fun _ => True, S1, fun _ => trivial, ?_, i1, k1, by rw [rangeW_len]; omega, by omega, fun y my => ⟨_, rfl, hel y⟩, fun xs hx hp => ⟨by rw [hx, rangeW_len]; omega, hp⟩⟩
  have ea : fAc e fA0 ρ S = .ok [nt v] S1 := ev_one e1
  unfold fRng
  rw [ea, R_ok]
  exact rng_at v (by omega)
/-- .. over a list that is there -/
theorem comp_list {w : Wd} {ρ : Rho} {k i m c : Nat} {ls : List PyData} {el : FE} {P : PyData → Prop} (hk : ρ[k]? = some (some (.d (.list ls)))) (hm : ls.length ≤ m) (hm2 : m < 1000) (hel : ∀ x ∈ ls, DrE w el ((wipeR ρ [i]).set i (some (.d x))) c P) : DrE w (fLc (fItS (fVar k)) (gtName i) fYes el [i]) ρ (0 + m * c) (fun x => ∃ xs, x = .list xs ∧ xs.length ≤ m ∧ ∀ y ∈ xs, P y) := by
  refine DrE.comp (P := P) (Q := fun xs => xs.length ≤ m ∧ ∀ y ∈ xs, P y) fun S N hI hN => ?_
  obtain ⟨ok, hok, hit⟩ := it_pure (a := fVar k) (ρ := ρ) (S := S) (x := .list ls) (ev_var hk) (.inl rfl)
  refine ⟨ls.map W.d, ok, S, hok, hit, w.mono hI (by omega), w.refl S, by rw [List.length_map]; exact hm, by omega, fun y my => ?_, fun xs hx hp => ⟨by rw [hx, List.length_map]; exact hm, hp⟩⟩
  obtain ⟨a, ma, rfl⟩ := List.mem_map.mp my
  exact ⟨_, rfl, hel a ma⟩
/-- tuple of a drawn list -/
theorem DrE.totup {w : Wd} {ρ : Rho} {e : FE} {c : Nat} {P : List PyData → Prop} (h : DrE w e ρ c (fun x => ∃ xs, x = .list xs ∧ P xs)) : DrE w (fL gTupleA (fAc e fA0)) ρ c (fun x => ∃ xs, x = .tuple xs ∧ P xs) := fun S N hI hN => by
  obtain ⟨x, S1, e1, ⟨xs, rfl, p1⟩, i1, k1⟩ := h S N hI hN
  exact ⟨.tuple xs, S1, ev_L (ws := [.d (.list xs)]) (ev_one e1) rfl, ⟨xs, rfl, p1⟩, i1, k1⟩
def RCN : List PyData := [.str "f", .str "g", .str "x", .str "M.x", .str "v1"]
theorem two_more {w : Wd} {ρ : Rho} (n : Nat) (h0 : ρ[0]? = some (some (.loc w.l))) : DrE w (f2 gAdd (fC (.int 2)) (fCall 2 (callN (n + 1) 12) (fAc (fVar 0) (fAc (fC (.int 2)) fA0)))) ρ 1 (Way 4) := fun S N hI hN => by
  obtain ⟨x, S1, e1, ⟨v, rfl, hv⟩, i1, k1⟩ := way_take w n (k := 2) (e := fC (.int 2)) h0 (fun S => rfl) (by decide) S N hI hN
  refine ⟨.int ((2 + v : Nat) : Int), S1, ev_f2 rfl e1 ?_, ⟨2 + v, rfl, by omega⟩, i1, k1⟩
  show some (iw (2 + (v : Int)), S1) = some (iw ((2 + v : Nat) : Int), S1)
  rw [show ((2 + v : Nat) : Int) = 2 + (v : Int) by omega]
theorem term_low (d j : Nat) {v m : Nat} (hv : v < 5) : DrS (W1 l) (termR (callN (j + 4))) [some (.loc l), some (iw (d : Int)), some (iw (v : Int)), none, none, none, none, none, none, none] 4 (TPH (m + 1)) := by
  have hv2 : v = 0 ∨ v = 1 ∨ v = 2 ∨ v = 3 ∨ v = 4 := by omega
  have nm : ∀ v : Nat, DrE (W1 l) (fL gTup (fAc (fC (.str "name")) (fAc (fCall 1 (callN (j + 4) 22) (fAc (fVar 0) fA0)) fA0))) [some (.loc l), some (iw (d : Int)), some (iw (v : Int)), none, none, none, none, none, none, none] 4 (TPH (m + 1)) := fun v =>
    (DrE.tup2 (DrE.const (x := .str "name") fun S => rfl) (DrE.call (d_name (W1 l) (j + 1)) (fun S => rfl) rfl) fun a b ha hb => by rw [ha]; exact leaf_tp (.inl rfl) hb).weak (by decide) fun _ h => h
  have sm : ∀ v : Nat, (fTest (f2 gEq (fVar 2) (fC (.int 3)))) = (fTest (f2 gEq (fVar 2) (fC (.int 3)))) := fun _ => rfl
  have mid : ∀ (v : Nat) (b : Bool), (∀ S, f2 gEq (fVar 2) (fC (.int 3)) [some (.loc l), some (iw (d : Int)), some (iw (v : Int)), none, none, none, none, none, none, none] S = .ok (bt b) S) →
      DrS (W1 l) (fSeq (fAsg (fL gLst (fAc (fL gTup (fAc (fC (.str "num")) (fAc (fCall 1 (callN (j + 4) 26) (fAc (fVar 0) fA0)) fA0))) (fAc (fL gTup (fAc (fC (.str "truth")) (fAc (f2 gEq (fVar 2) (fC (.int 3))) fA0))) (fAc (fL gTup (fAc (fC (.str "make")) (fAc (fCall 1 (callN (j + 4) 24) (fAc (fVar 0) fA0)) (fAc (fC .none) fA0)))) (fAc (fL gTup (fAc (fC (.str "tuple")) (fAc (fL gTup fA0) fA0))) fA0))))) (gtName 3)) (fRet (fCall 2 (callN (j + 4) 13) (fAc (fVar 0) (fAc (fVar 3) fA0))))) [some (.loc l), some (iw (d : Int)), some (iw (v : Int)), none, none, none, none, none, none, none] 4 (TPH (m + 1)) := fun v b hb => by
    refine (DrS.asg (c1 := 2) (c2 := 1) (P := fun x => ∃ ds, x = .list ds ∧ ds.length = 4 ∧ ∀ y ∈ ds, TPH (m + 1) y) ((DrE.lst4 (DrE.tup2 (Q := TPH (m + 1)) (DrE.const (x := .str "num") fun S => rfl) (DrE.call (d_number (W1 l) (j + 1)) (fun S => rfl) rfl) fun a b ha hb => by rw [ha]; exact leaf_tp (.inr (.inl rfl)) hb)
      (DrE.tup2 (Q := TPH (m + 1)) (DrE.const (x := .str "truth") fun S => rfl) (DrE.const (x := .bool b) hb) fun a b' ha hb => by rw [ha, hb]; exact leaf_tp (.inr (.inr rfl)) Sm.bool)
      (DrE.tup3 (Q := TPH (m + 1)) (DrE.const (x := .str "make") fun S => rfl) (DrE.call (d_maker (W1 l) (j + 1)) (fun S => rfl) rfl) (DrE.const (x := .none) fun S => rfl) fun a b c ha hb hc => by rw [ha, hc]; exact make0_tp hb)
      (DrE.const (x := .tuple [.str "tuple", .tuple []]) fun S => rfl) fun a b c e ha hb hc he => ⟨_, rfl, rfl, fun y my => four ha hb hc (by rw [he]; exact unit_tp) y my⟩).weak (by decide) fun _ h => h) fun x hx => DrS.ret ?_).weak (by decide) fun _ h => h
    obtain ⟨ds, rfl, hl, hd⟩ := hx
    exact DrE.oneC (j + 2) rfl (fun S => rfl) (by omega) hd
  rcases hv2 with rfl | rfl | rfl | rfl | rfl
  · exact DrS.yes (fun S => rfl) (DrS.ret (nm 0))
  · exact DrS.yes (fun S => rfl) (DrS.ret (nm 1))
  · exact DrS.no (fun S => rfl) (DrS.yes (fun S => rfl) (mid 2 false fun S => rfl))
  · exact DrS.no (fun S => rfl) (DrS.yes (fun S => rfl) (mid 3 true fun S => rfl))
  · exact DrS.no (fun S => rfl) (DrS.yes (fun S => rfl) (mid 4 false fun S => rfl))
theorem d_fn {q d c m : Nat} (h : DrF (W1 l) (callN (q + 7) 30) [iw (d : Int)] c (TPH m)) : DrF (W1 l) (callN (q + 8) 28) [iw ((d + 1 : Nat) : Int)] (1 + c) (TPH (m + 1)) := by
  refine DrF.of (b := b28 (callN (q + 7))) (k := 2) (fun S => rfl) (DrS.ret ?_)
  refine (DrE.tup3 (DrE.const (x := .str "fn") fun S => rfl) (DrE.call (d_small (W1 l) (q + 4)) (fun S => rfl) rfl) (DrE.call h (fun S => ?_) rfl) fun a b x ha hb hx => ?_).weak (by omega) fun _ h => h
  · refine ev_ac (ev_var rfl) (ev_one (ev_f2 (ev_var rfl) rfl ?_))
    show some (iw (((d + 1 : Nat) : Int) - 1), S) = _
    rw [show ((d + 1 : Nat) : Int) - 1 = (d : Int) by omega]
  · rw [ha]
    exact tp1 (h := .fn b) rfl hb hx
/-- a term of a height, drawn -/
theorem d_term : ∀ (d n : Nat), 2 * d + 12 ≤ n → DrF (W1 l) (callN n 30) [iw (d : Int)] (ct d) (TPH (2 * d + 1)) := fun d => by
  induction d using Nat.strongRecOn with
  | ind d ih =>
    intro n hn
    cases d with
    | zero =>
      obtain ⟨j, rfl⟩ : ∃ j, n = (j + 4) + 1 := ⟨n - 5, by omega⟩
      refine DrF.of (b := b30 (callN (j + 4))) (k := 10) (fun S => rfl) ?_
      refine (DrS.asg (c1 := 1) (c2 := 4) (P := Way 5) (Q := TPH 1) (DrE.ife (k := false) (fun S => rfl) (fun h => by cases h) fun _ => way_take (W1 l) (j + 3) (k := 5) rfl (fun S => rfl) (by decide)) fun x hx => ?_).weak (by decide) fun _ h => h
      obtain ⟨v, rfl, hv⟩ := hx
      exact term_low 0 j hv
    | succ d =>
      obtain ⟨q, rfl⟩ : ∃ q, n = q + 9 := ⟨n - 9, by omega⟩
      have hA : DrF (W1 l) (callN (q + 8) 30) [iw (d : Int)] (ct d) (TPH (2 * d + 1)) := ih d (by omega) (q + 8) (by omega)
      have hA7 : DrF (W1 l) (callN (q + 7) 30) [iw (d : Int)] (ct d) (TPH (2 * d + 1)) := ih d (by omega) (q + 7) (by omega)
      have hB : DrF (W1 l) (callN (q + 8) 30) [iw ((d + 1 - 2 : Nat) : Int)] (ct d) (TPH (2 * d + 1)) := (ih (d + 1 - 2) (by omega) (q + 8) (by omega)).weak (ct_mono (by omega)) fun x h => h.mono (by omega)
      have hB7 : DrF (W1 l) (callN (q + 7) 30) [iw ((d + 1 - 2 : Nat) : Int)] (ct d) (TPH (2 * d + 1)) := (ih (d + 1 - 2) (by omega) (q + 7) (by omega)).weak (ct_mono (by omega)) fun x h => h.mono (by omega)
      have cs : ct (d + 1) = 7 * ct d + 600 := rfl
      have sub : ∀ ρ : Rho, ρ[0]? = some (some (.loc l)) → ρ[1]? = some (some (iw ((d + 1 : Nat) : Int))) → DrE (W1 l) (fCall 2 (callN (q + 8) 30) (fAc (fVar 0) (fAc (f2 gSub (fVar 1) (fC (.int 1))) fA0))) ρ (ct d) (TPH (2 * d + 1)) := fun ρ h0 h1 => by
        refine DrE.call hA (fun S => ev_ac (ev_var h0) (ev_one (ev_f2 (ev_var h1) rfl ?_))) rfl
        show some (iw (((d + 1 : Nat) : Int) - 1), S) = _
        rw [show ((d + 1 : Nat) : Int) - 1 = (d : Int) by omega]
      have mx : ∀ (ρ : Rho) (S : Store), ρ[1]? = some (some (iw ((d + 1 : Nat) : Int))) → fL gMax2 (fAc (fC (.int 0)) (fAc (f2 gSub (fVar 1) (fC (.int 2))) fA0)) ρ S = .ok (iw ((d + 1 - 2 : Nat) : Int)) S := fun ρ S h1 => by
        refine ev_L (ws := [iw 0, iw (((d + 1 : Nat) : Int) - 2)]) (ev_ac rfl (ev_one (ev_f2 (ev_var h1) rfl rfl))) ?_
        show some (iw (if ((d + 1 : Nat) : Int) - 2 > 0 then ((d + 1 : Nat) : Int) - 2 else 0), S) = _
        rw [show (if ((d + 1 : Nat) : Int) - 2 > 0 then ((d + 1 : Nat) : Int) - 2 else 0) = ((d + 1 - 2 : Nat) : Int) by split <;> omega]
      have sub2 : ∀ ρ : Rho, ρ[0]? = some (some (.loc l)) → ρ[1]? = some (some (iw ((d + 1 : Nat) : Int))) → DrE (W1 l) (fCall 2 (callN (q + 8) 30) (fAc (fVar 0) (fAc (fL gMax2 (fAc (fC (.int 0)) (fAc (f2 gSub (fVar 1) (fC (.int 2))) fA0))) fA0))) ρ (ct d) (TPH (2 * d + 1)) := fun ρ h0 h1 => DrE.call hB (fun S => ev_ac (ev_var h0) (ev_one (mx ρ S h1))) rfl
      have up : ∀ {x : PyData}, TPH (2 * d + 2) x → TPH (2 * (d + 1) + 1) x := fun h => h.mono (by omega)
      refine DrF.of (b := b30 (callN (q + 8))) (k := 10) (fun S => rfl) ?_
      refine (DrS.asg (c1 := 1) (c2 := 7 * ct d + 599) (P := Way 22) (Q := TPH (2 * (d + 1) + 1)) (DrE.ife (k := true) (fun S => ?_) (fun _ => way_take (W1 l) (q + 7) (k := 22) rfl (fun S => rfl) (by decide)) fun h => by cases h) fun x hx => ?_).weak (by omega) fun _ h => h
      · refine ev_test (ev_f2 (ev_var rfl) rfl ?_)
        show some (bt (decide ((0 : Int) < ((d + 1 : Nat) : Int))), S) = _
        rw [decide_eq_true (by omega)]
      obtain ⟨v, rfl, hv⟩ := hx
      by_cases hlow : v < 5
      · exact (term_low (d + 1) (q + 4) hlow).weak (by omega) fun _ h => h
      have hv2 : v = 5 ∨ (v = 6 ∨ v = 7) ∨ v = 8 ∨ v = 9 ∨ v = 10 ∨ v = 11 ∨ v = 12 ∨ (v = 13 ∨ v = 14) ∨ (v = 15 ∨ v = 16) ∨ v = 17 ∨ v = 18 ∨ v = 19 ∨ v = 20 ∨ v = 21 := by omega
      have fin : 2 * d + 2 = (2 * d + 1) + 1 := rfl
      rcases hv2 with rfl | hc | rfl | rfl | rfl | rfl | rfl | hc | hc | rfl | rfl | rfl | rfl | rfl
      · -- fn
        refine DrS.no (fun S => rfl) (DrS.no (fun S => rfl) (DrS.yes (fun S => rfl) (DrS.ret ?_)))
        exact (DrE.call (d_fn hA7) (fun S => rfl) rfl).weak (by omega) fun x h => up h
      · -- call
        rcases hc with rfl | rfl <;>
        · refine DrS.no (fun S => rfl) (DrS.no (fun S => rfl) (DrS.no (fun S => rfl) (DrS.yes (fun S => rfl) (DrS.ret ?_))))
          exact (DrE.tup3 (DrE.const (x := .str "call") fun S => rfl) (sub _ rfl rfl) (sub _ rfl rfl) fun a b c ha hb hc => by
            rw [ha]; exact up (tp2 (h := .fl "call") (.inl ⟨rfl, rfl⟩) (show wordB "call" = true by decide +kernel) hb hc)).weak (by omega) fun _ h => h
      · -- let
        refine DrS.no (fun S => rfl) (DrS.no (fun S => rfl) (DrS.no (fun S => rfl) (DrS.no (fun S => rfl) (DrS.yes (fun S => rfl) (DrS.ret ?_)))))
        exact (DrE.tup4 (DrE.const (x := .str "let") fun S => rfl) (DrE.call (d_name (W1 l) (q + 5)) (fun S => rfl) rfl) (sub _ rfl rfl) (sub _ rfl rfl) fun a n b c ha hn hb hc => by
          rw [ha]; exact up (tp2 (h := .lt n) rfl hn hb hc)).weak (by omega) fun _ h => h
      · -- rec
        refine DrS.no (fun S => rfl) (DrS.no (fun S => rfl) (DrS.no (fun S => rfl) (DrS.no (fun S => rfl) (DrS.no (fun S => rfl) (DrS.yes (fun S => rfl) ?_)))))
        intro S N hI hN
        obtain ⟨ms, S1, pm, e1, i1, k1⟩ := (W1 l).mx (q + 6) (ds := RCN) (n2 := 0) (fa := fAc (fVar 0) (fAc (fL gLst (fAc (fC (.str "f")) (fAc (fC (.str "g")) (fAc (fC (.str "x")) (fAc (fC (.str "M.x")) (fAc (fC (.str "v1")) fA0)))))) fA0)) (ρ := [some (.loc l), some (iw ((d + 1 : Nat) : Int)), some (iw ((9 : Nat) : Int)), none, none, none, none, none, none, none]) hI (by show N + 5 < _; omega) (by decide) rfl
        obtain ⟨x, S2, e2, ⟨v, rfl, hv⟩, i2, k2⟩ := way_take (W1 l) (q + 7) (k := 2) (e := fC (.int 2)) (ρ := [some (.loc l), some (iw ((d + 1 : Nat) : Int)), some (iw ((9 : Nat) : Int)), none, none, none, none, none, none, none]) rfl (fun S => rfl) (by decide) S1 (N + 5) i1 (by omega)
        have ga : f2 gAdd (fC (.int 1)) (fCall 2 (callN (q + 8) 12) (fAc (fVar 0) (fAc (fC (.int 2)) fA0))) [some (.loc l), some (iw ((d + 1 : Nat) : Int)), some (iw ((9 : Nat) : Int)), none, none, none, none, none, none, none] S1 = .ok (iw ((1 + v : Nat) : Int)) S2 := by
          refine ev_f2 rfl e2 ?_
          show some (iw (1 + (v : Int)), S2) = _
          rw [show ((1 + v : Nat) : Int) = 1 + (v : Int) by omega]
        have sl : gSlA (.d (.list ms)) none (some ((1 + v : Nat) : Int)) S2 = some (.d (.list (ms.take (1 + v))), S2) := by
          show some (W.d (.list (cutG ms none (some ((1 + v : Nat) : Int)))), S2) = _
          rw [cut_to]
        have tm : ∀ y ∈ ms.take (1 + v), Sm0 y := fun y my => all_sm (ds := RCN) (by decide +kernel) y (pm.mem_iff.mp (List.mem_of_mem_take my))
        have tl : (ms.take (1 + v)).length ≤ 2 := by rw [List.length_take]; omega
        generalize ms.take (1 + v) = ns at sl tm tl
        have cm := comp_list (w := W1 l) (ρ := [some (.loc l), some (iw ((d + 1 : Nat) : Int)), some (iw ((9 : Nat) : Int)), none, some (.d (.list ns)), none, none, none, none, none]) (k := 4) (i := 5) (m := 2) (el := fL gTup (fAc (fVar 5) (fAc (fCall 2 (callN (q + 8) 28) (fAc (fVar 0) (fAc (fVar 1) fA0))) fA0))) (P := PairP Sm0 (TPH (2 * d + 2))) rfl tl (by decide) fun x mx_ => DrE.tup2 (DrE.const (x := x) fun S => rfl) (DrE.call (d_fn hA7) (fun S => rfl) rfl) fun a b ha hb => ⟨a, b, rfl, by rw [ha]; exact tm x mx_, hb⟩
        have tot := DrE.tup3 (w := W1 l) (e1 := fC (.str "rec")) (Q := TPH (2 * (d + 1) + 1)) (DrE.const (x := .str "rec") fun S => rfl) (DrE.totup cm) (sub [some (.loc l), some (iw ((d + 1 : Nat) : Int)), some (iw ((9 : Nat) : Int)), none, some (.d (.list ns)), none, none, none, none, none] rfl rfl) fun a b c ha hb hc => by
          obtain ⟨ys, rfl, hl, hy⟩ := hb
          obtain ⟨xs, ks, rfl, l1, l2, h1, h2⟩ := unpair hy
          rw [ha]
          have r := tp_node (h := .rc xs) (xs := ks ++ [c]) (m := 2 * d + 2) (by show (ks ++ [c]).length = xs.length + 1; rw [List.length_append, List.length_singleton]; omega) (by rw [List.length_append, List.length_singleton]; omega) h1 fun x mx_ => by
            rcases List.mem_append.mp mx_ with mx_ | mx_
            · exact h2 x mx_
            · rw [List.mem_singleton.mp mx_]; exact hc.mono (by omega)
          have e : encN (.rc xs) (ks ++ [c]) = .tuple [.str "rec", .tuple (pairs xs ks), c] := by
            show PyData.tuple [_, .tuple (pairs xs (ks ++ [c])), (ks ++ [c]).getD xs.length .none] = _
            rw [pairs_cut (by omega), last_get (by omega)]
          rw [e] at r
          exact r.mono (by omega)
        obtain ⟨y, S3, e3, p3, i3, k3⟩ := tot S2 (N + 5 + 1) i2 (by omega)
        refine ⟨y, S3, ?_, p3, (W1 l).mono i3 (by omega), (W1 l).trans k1 ((W1 l).trans k2 k3)⟩
        refine (ev_seq (ρ1 := [some (.loc l), some (iw ((d + 1 : Nat) : Int)), some (iw ((9 : Nat) : Int)), none, some (.d (.list ns)), none, none, none, none, none]) (S1 := S2) (ev_asg ?_)).trans (ev_ret e3)
        have e1' : fCall 2 (callN (q + 8) 14) (fAc (fVar 0) (fAc (fL gLst (fAc (fC (.str "f")) (fAc (fC (.str "g")) (fAc (fC (.str "x")) (fAc (fC (.str "M.x")) (fAc (fC (.str "v1")) fA0)))))) fA0)) [some (.loc l), some (iw ((d + 1 : Nat) : Int)), some (iw ((9 : Nat) : Int)), none, none, none, none, none, none, none] S = .ok (.d (.list ms)) S1 := e1
        have es : fSl gSlA (fCall 2 (callN (q + 8) 14) (fAc (fVar 0) (fAc (fL gLst (fAc (fC (.str "f")) (fAc (fC (.str "g")) (fAc (fC (.str "x")) (fAc (fC (.str "M.x")) (fAc (fC (.str "v1")) fA0)))))) fA0))) fNoPart (fPart (f2 gAdd (fC (.int 1)) (fCall 2 (callN (q + 8) 12) (fAc (fVar 0) (fAc (fC (.int 2)) fA0))))) [some (.loc l), some (iw ((d + 1 : Nat) : Int)), some (iw ((9 : Nat) : Int)), none, none, none, none, none, none, none] S = .ok (.d (.list ns)) S2 := by
          unfold fSl
          rw [e1', R_ok]
          show (R.ok none S1 : R (Option Int)).bind _ = _
          rw [R_ok]
          show (fPart _ [some (.loc l), some (iw ((d + 1 : Nat) : Int)), some (iw ((9 : Nat) : Int)), none, none, none, none, none, none, none] S1).bind _ = _
          unfold fPart
          rw [ga]
          show (R.ok (some ((1 + v : Nat) : Int)) S2 : R (Option Int)).bind _ = _
          rw [R_ok, sl]
          rfl
        exact es
      · -- if
        refine DrS.no (fun S => rfl) (DrS.no (fun S => rfl) (DrS.no (fun S => rfl) (DrS.no (fun S => rfl) (DrS.no (fun S => rfl) (DrS.no (fun S => rfl) (DrS.yes (fun S => rfl) ?_))))))
        intro S N hI hN
        have cm := DrE.comp (w := W1 l) (it := fRng rng1 (fAc (fC (.int 3)) fA0)) (g := gtName 6) (el := fCall 2 (callN (q + 8) 30) (fAc (fVar 0) (fAc (fL gMax2 (fAc (fC (.int 0)) (fAc (f2 gSub (fVar 1) (fC (.int 2))) fA0))) fA0))) (vs := [6]) (ρ := [some (.loc l), some (iw ((d + 1 : Nat) : Int)), some (iw ((10 : Nat) : Int)), none, none, none, none, none, none, none]) (c1 := 0) (c := ct d) (m := 3) (P := TPH (2 * d + 1)) (Q := fun xs => xs.length = 3 ∧ ∀ y ∈ xs, TPH (2 * d + 1) y) fun S N hI hN => ⟨rangeW 0 3, fun _ => True, S, fun _ => trivial, rng_nat 3 (by decide), hI, (W1 l).refl S, by rw [rangeW_len]; exact Nat.le_refl _, by decide, fun y my => ⟨_, rfl, sub2 _ rfl rfl⟩, fun xs hx hp => ⟨by rw [hx, rangeW_len], hp⟩⟩
        obtain ⟨x, S1, e1, ⟨xs, rfl, h1, h2⟩, i1, k1⟩ := (DrE.totup cm) S N hI (by omega)
        refine ⟨.tuple (.str "if" :: xs), S1, ev_ret (ev_f2 (x := tu [.str "if"]) (y := tu xs) rfl e1 (g_catT (by rw [List.length_singleton]; omega))), ?_, (W1 l).mono i1 (by omega), k1⟩
        exact up (tp_node (h := .fl "if") (xs := xs) (.inr (.inl ⟨rfl, h1⟩)) (by omega) (show wordB "if" = true by decide +kernel) h2)
      · -- tuple
        refine DrS.no (fun S => rfl) (DrS.no (fun S => rfl) (DrS.no (fun S => rfl) (DrS.no (fun S => rfl) (DrS.no (fun S => rfl) (DrS.no (fun S => rfl) (DrS.no (fun S => rfl) (DrS.yes (fun S => rfl) (DrS.ret ?_))))))))
        refine (DrE.tup2 (DrE.const (x := .str "tuple") fun S => rfl) (DrE.totup (comp_rng (c1 := 1) (m := 3) (i := 6) (P := TPH (2 * d + 1)) (two_more (q + 7) rfl) (by decide) fun x => sub2 _ rfl rfl)) fun a b ha hb => ?_).weak (by omega) fun _ h => h
        obtain ⟨xs, rfl, h1, h2⟩ := hb
        rw [ha]
        exact up (tp_node (h := .tup) (xs := xs) trivial (by omega) trivial h2)
      · -- record
        refine DrS.no (fun S => rfl) (DrS.no (fun S => rfl) (DrS.no (fun S => rfl) (DrS.no (fun S => rfl) (DrS.no (fun S => rfl) (DrS.no (fun S => rfl) (DrS.no (fun S => rfl) (DrS.no (fun S => rfl) (DrS.yes (fun S => rfl) ?_))))))))
        refine (DrS.asg (c2 := 3 * ct d) (Q := TPH (2 * (d + 1) + 1)) (DrE.call (d_labels (W1 l) (q + 5)) (fun S => rfl) rfl) fun x hx => ?_).weak (by omega) fun _ h => h
        obtain ⟨ls, rfl, hl, hs⟩ := hx
        refine DrS.ret ((DrE.tup2 (DrE.const (x := .str "record") fun S => rfl) (DrE.totup (comp_list (k := 7) (i := 8) (m := 3) (P := PairP Sm0 (TPH (2 * d + 1))) rfl hl (by decide) fun x mx_ => DrE.tup2 (DrE.const (x := x) fun S => rfl) (sub2 _ rfl rfl) fun a b ha hb => ⟨a, b, rfl, by rw [ha]; exact hs x mx_, hb⟩)) fun a b ha hb => ?_).weak (by omega) fun _ h => h)
        obtain ⟨ys, rfl, hl2, hy⟩ := hb
        obtain ⟨xs, ks, rfl, l1, l2, h1, h2⟩ := unpair hy
        rw [ha]
        exact up (tp_node (h := .rd xs) (xs := ks) (by show ks.length = xs.length; omega) (by omega) h1 h2)
      · -- field
        rcases hc with rfl | rfl <;>
        · refine DrS.no (fun S => rfl) (DrS.no (fun S => rfl) (DrS.no (fun S => rfl) (DrS.no (fun S => rfl) (DrS.no (fun S => rfl) (DrS.no (fun S => rfl) (DrS.no (fun S => rfl) (DrS.no (fun S => rfl) (DrS.no (fun S => rfl) (DrS.yes (fun S => rfl) (DrS.ret ?_))))))))))
          exact (DrE.tup3 (DrE.const (x := .str "field") fun S => rfl) (sub _ rfl rfl) (DrE.oneC (q + 6) (ds := [.str "a", .str "b", .str "num"]) rfl (fun S => rfl) (by decide) (all_sm (by decide +kernel))) fun a b c ha hb hc => by
            rw [ha]; exact up (tp1 (h := .fd c) rfl hc hb)).weak (by omega) fun _ h => h
      · -- make
        rcases hc with rfl | rfl <;>
        · refine DrS.no (fun S => rfl) (DrS.no (fun S => rfl) (DrS.no (fun S => rfl) (DrS.no (fun S => rfl) (DrS.no (fun S => rfl) (DrS.no (fun S => rfl) (DrS.no (fun S => rfl) (DrS.no (fun S => rfl) (DrS.no (fun S => rfl) (DrS.no (fun S => rfl) (DrS.yes (fun S => rfl) (DrS.ret ?_)))))))))))
          exact (DrE.tup3 (DrE.const (x := .str "make") fun S => rfl) (DrE.call (d_maker (W1 l) (q + 5)) (fun S => rfl) rfl) (sub _ rfl rfl) fun a b c ha hb hc => by
            rw [ha]; exact up (tp1 (h := .mk1 b) rfl hb hc)).weak (by omega) fun _ h => h
      · -- match
        refine DrS.no (fun S => rfl) (DrS.no (fun S => rfl) (DrS.no (fun S => rfl) (DrS.no (fun S => rfl) (DrS.no (fun S => rfl) (DrS.no (fun S => rfl) (DrS.no (fun S => rfl) (DrS.no (fun S => rfl) (DrS.no (fun S => rfl) (DrS.no (fun S => rfl) (DrS.no (fun S => rfl) (DrS.yes (fun S => rfl) (DrS.ret ?_))))))))))))
        refine (DrE.tup3 (DrE.const (x := .str "match") fun S => rfl) (sub _ rfl rfl) (DrE.callG (d_rows (d := d + 1) (c := ct d) hB7) (fun S => rfl) rfl) fun a b c ha hb hc => ?_).weak (by have := ct_ge d; omega) fun _ h => h
        obtain ⟨ys, rfl, hl, hy⟩ := hc
        obtain ⟨xs, ks, rfl, l1, l2, h1, h2⟩ := unpair hy
        rw [ha]
        exact up (tp_node (h := .mt xs) (xs := b :: ks) (by show (b :: ks).length = xs.length + 1; rw [List.length_cons]; omega) (by rw [List.length_cons]; omega) h1 fun x mx_ => by
          rcases List.mem_cons.mp mx_ with rfl | mx_
          · exact hb
          · exact h2 x mx_)
      · -- new, get, tell
        refine DrS.no (fun S => rfl) (DrS.no (fun S => rfl) (DrS.no (fun S => rfl) (DrS.no (fun S => rfl) (DrS.no (fun S => rfl) (DrS.no (fun S => rfl) (DrS.no (fun S => rfl) (DrS.no (fun S => rfl) (DrS.no (fun S => rfl) (DrS.no (fun S => rfl) (DrS.no (fun S => rfl) (DrS.no (fun S => rfl) (DrS.yes (fun S => rfl) (DrS.ret ?_)))))))))))))
        refine (DrE.tup2 (P1 := fun x => x = .str "new" ∨ x = .str "get" ∨ x = .str "tell") (DrE.oneC (q + 6) (ds := [.str "new", .str "get", .str "tell"]) rfl (fun S => rfl) (by decide) fun y my => by simpa using my) (sub _ rfl rfl) fun a b ha hb => ?_).weak (by omega) fun _ h => h
        rcases ha with rfl | rfl | rfl
        · exact up (tp1 (h := .fl "new") (.inr (.inr (.inr ⟨.inl rfl, rfl⟩))) (show wordB "new" = true by decide +kernel) hb)
        · exact up (tp1 (h := .fl "get") (.inr (.inr (.inr ⟨.inr (.inl rfl), rfl⟩))) (show wordB "get" = true by decide +kernel) hb)
        · exact up (tp1 (h := .fl "tell") (.inr (.inr (.inr ⟨.inr (.inr rfl), rfl⟩))) (show wordB "tell" = true by decide +kernel) hb)
      · -- put
        refine DrS.no (fun S => rfl) (DrS.no (fun S => rfl) (DrS.no (fun S => rfl) (DrS.no (fun S => rfl) (DrS.no (fun S => rfl) (DrS.no (fun S => rfl) (DrS.no (fun S => rfl) (DrS.no (fun S => rfl) (DrS.no (fun S => rfl) (DrS.no (fun S => rfl) (DrS.no (fun S => rfl) (DrS.no (fun S => rfl) (DrS.no (fun S => rfl) (DrS.yes (fun S => rfl) (DrS.ret ?_))))))))))))))
        exact (DrE.tup3 (DrE.const (x := .str "put") fun S => rfl) (sub _ rfl rfl) (sub _ rfl rfl) fun a b c ha hb hc => by
          rw [ha]; exact up (tp2 (h := .fl "put") (.inr (.inr (.inl ⟨rfl, rfl⟩))) (show wordB "put" = true by decide +kernel) hb hc)).weak (by omega) fun _ h => h
      · refine DrS.no (fun S => rfl) (DrS.no (fun S => rfl) (DrS.no (fun S => rfl) (DrS.no (fun S => rfl) (DrS.no (fun S => rfl) (DrS.no (fun S => rfl) (DrS.no (fun S => rfl) (DrS.no (fun S => rfl) (DrS.no (fun S => rfl) (DrS.no (fun S => rfl) (DrS.no (fun S => rfl) (DrS.no (fun S => rfl) (DrS.no (fun S => rfl) (DrS.no (fun S => rfl) (?_))))))))))))))
        refine (DrS.asg (c1 := 1) (c2 := 2 * ct d) (P := Sm0) (Q := TPH (2 * (d + 1) + 1)) (DrE.oneC (q + 6) (ds := [.str "+", .str "-", .str "*", .str "<", .str "="]) rfl (fun S => rfl) (by decide) (all_sm (by decide +kernel))) fun x hx => DrS.ret ((DrE.tup4 (DrE.const (x := .str "op") fun S => rfl) (DrE.const (x := x) fun S => rfl) (sub _ rfl rfl) (sub _ rfl rfl) fun a s b c ha hs hb hc => ?_).weak (by omega) fun _ h => h)).weak (by omega) fun _ h => h
        rw [ha, hs]
        exact up (tp2 (h := .op x) rfl hx hb hc)
      · refine DrS.no (fun S => rfl) (DrS.no (fun S => rfl) (DrS.no (fun S => rfl) (DrS.no (fun S => rfl) (DrS.no (fun S => rfl) (DrS.no (fun S => rfl) (DrS.no (fun S => rfl) (DrS.no (fun S => rfl) (DrS.no (fun S => rfl) (DrS.no (fun S => rfl) (DrS.no (fun S => rfl) (DrS.no (fun S => rfl) (DrS.no (fun S => rfl) (DrS.no (fun S => rfl) (?_))))))))))))))
        refine (DrS.asg (c1 := 1) (c2 := 2 * ct d) (P := Sm0) (Q := TPH (2 * (d + 1) + 1)) (DrE.oneC (q + 6) (ds := [.str "+", .str "-", .str "*", .str "<", .str "="]) rfl (fun S => rfl) (by decide) (all_sm (by decide +kernel))) fun x hx => DrS.ret ((DrE.tup4 (DrE.const (x := .str "op") fun S => rfl) (DrE.const (x := x) fun S => rfl) (sub _ rfl rfl) (sub _ rfl rfl) fun a s b c ha hs hb hc => ?_).weak (by omega) fun _ h => h)).weak (by omega) fun _ h => h
        rw [ha, hs]
        exact up (tp2 (h := .op x) rfl hx hb hc)
end
end P4
end VI
set_option Elab.async false
set_option linter.all false
set_option maxRecDepth 100000
namespace VI
open PySem PySem.Spec PyProof.Rows L2
namespace P4

/-! terms are small -/
theorem Sms.uncons {k b : Nat} {d : PyData} {ds : List PyData} (h : Sms k b (d :: ds)) : ∃ b1 b2, Sm k b1 d ∧ Sms k b2 ds ∧ b1 + 1 + b2 ≤ b := by
  have e : (smallD d && smallDs ds) = true := h.sm
  rw [Bool.and_eq_true] at e
  have e2 : max d.depth (PyData.depthAll ds) ≤ k := h.dp
  rw [Nat.max_le] at e2
  exact ⟨d.bulk, PyData.bulkAll ds, ⟨e.1, e2.1, Nat.le_refl _⟩, ⟨e.2, e2.2, Nat.le_refl _⟩, h.bk⟩
theorem pairs_sm {D bx : Nat} : ∀ {xs ks : List PyData} {B : Nat}, (∀ x ∈ xs, Sm D bx x) → Sms D B ks → Sms (D + 1) (B + xs.length * (bx + 3)) (pairs xs ks)
  | [], ks, B, _, _ => by cases ks <;> exact Sms.nil
  | _ :: _, [], B, _, _ => Sms.nil
  | x :: xs, k :: ks, B, hx, hk => by
    obtain ⟨b1, b2, h1, h2, hb⟩ := Sms.uncons hk
    have r := pairs_sm (xs := xs) (fun y my => hx y (by simp [my])) h2
    have hp : Sm (D + 1) (bx + 1 + (b1 + 1)) (.tuple [x, k]) := Sm.tuple (Sms.cons (hx x (by simp)) (Sms.one h1))
    refine (Sms.cons hp r).mono (Nat.le_refl _) ?_
    rw [List.length_cons, Nat.succ_mul]
    omega
theorem Sms.unsnoc {k : Nat} : ∀ {r : List PyData} {a : PyData} {b : Nat}, Sms k b (r ++ [a]) → ∃ b1 b2, Sms k b1 r ∧ Sm k b2 a ∧ b1 + b2 + 1 ≤ b
  | [], a, b, h => by
    obtain ⟨b1, b2, h1, h2, hb⟩ := Sms.uncons h
    exact ⟨0, b1, Sms.nil, h1, by omega⟩
  | x :: r, a, b, h => by
    obtain ⟨b1, b2, h1, h2, hb⟩ := Sms.uncons h
    obtain ⟨c1, c2, g1, g2, hc⟩ := Sms.unsnoc h2
    exact ⟨b1 + 1 + c1, c2, Sms.cons h1 g1, g2, by omega⟩
theorem wd {x : Str} {k : Nat} (h : wordB x = true) : Sm k 6 (.str x) := by
  have h2 : (okc x.cps.toList && decide (x.cps.size ≤ 6)) = true := h
  rw [Bool.and_eq_true, decide_eq_true_eq] at h2
  exact sm_str h2.1 h2.2
theorem node_sm {h : Hd} {ks : List PyData} {D B : Nat} (hf : fits h ks.length) (h4 : ks.length ≤ 4) (ho : HdOk h) (hD : 8 ≤ D) (hk : Sms D B ks) : Sm (D + 3) (B + 1300) (encN h ks) := by
  have x0 : ∀ {x : PyData}, Sm0 x → Sm D 25 x := fun h => h.mono (Nat.zero_le _) (Nat.le_refl _)
  cases h with
  | leaf w d => exact (Sm.tuple (Sms.cons (wd ho.1) (Sms.one (x0 ho.2)))).mono (by omega) (by omega)
  | fn x =>
    obtain ⟨a, rfl⟩ := len1 hf
    obtain ⟨b1, b2, h1, _, hb⟩ := Sms.uncons hk
    exact (Sm.tuple (Sms.cons (wd (x := "fn") (by decide +kernel)) (Sms.cons (x0 ho) (Sms.one h1)))).mono (by omega) (by omega)
  | lt x =>
    obtain ⟨a, c, rfl⟩ := len2 hf
    obtain ⟨b1, b2, h1, g, hb⟩ := Sms.uncons hk
    obtain ⟨b3, b4, h2, _, hb2⟩ := Sms.uncons g
    exact (Sm.tuple (Sms.cons (wd (x := "let") (by decide +kernel)) (Sms.cons (x0 ho) (Sms.cons h1 (Sms.one h2))))).mono (by omega) (by omega)
  | rc xs =>
    obtain ⟨r, a, rfl, hr⟩ := lenS hf
    rw [List.length_append, List.length_singleton] at h4
    obtain ⟨b1, b2, g, h1, hb⟩ := Sms.unsnoc hk
    have hp := pairs_sm (xs := xs) (fun x m => x0 (ho x m)) g
    have hx : xs.length * (25 + 3) ≤ 3 * 28 := Nat.mul_le_mul (by omega) (by decide)
    have e : encN (.rc xs) (r ++ [a]) = .tuple [.str "rec", .tuple (pairs xs r), a] := by
      show PyData.tuple [_, .tuple (pairs xs (r ++ [a])), (r ++ [a]).getD xs.length .none] = _
      rw [pairs_cut hr, last_get hr]
    rw [e]
    exact (Sm.tuple (k := D + 2) (Sms.cons (wd (x := "rec") (by decide +kernel)) (Sms.cons (Sm.tuple hp) (Sms.one (h1.mono (show D ≤ D + 2 by omega) (Nat.le_refl _)))))).mono (by omega) (by omega)
  | tup => exact (Sm.tuple (k := D + 1) (Sms.cons (wd (x := "tuple") (by decide +kernel)) (Sms.one (Sm.tuple hk)))).mono (by omega) (by omega)
  | rd xs =>
    have hl : ks.length = xs.length := hf
    have hp := pairs_sm (xs := xs) (fun x m => x0 (ho x m)) hk
    have hx : xs.length * (25 + 3) ≤ 4 * 28 := Nat.mul_le_mul (by omega) (by decide)
    exact (Sm.tuple (k := D + 2) (Sms.cons (wd (x := "record") (by decide +kernel)) (Sms.one (Sm.tuple hp)))).mono (by omega) (by omega)
  | fd x =>
    obtain ⟨a, rfl⟩ := len1 hf
    obtain ⟨b1, b2, h1, _, hb⟩ := Sms.uncons hk
    exact (Sm.tuple (Sms.cons (wd (x := "field") (by decide +kernel)) (Sms.cons h1 (Sms.one (x0 ho))))).mono (by omega) (by omega)
  | mk0 x => exact (Sm.tuple (Sms.cons (wd (x := "make") (by decide +kernel)) (Sms.cons (x0 ho) (Sms.one (⟨rfl, Nat.zero_le _, Nat.zero_le _⟩ : Sm D 0 .none))))).mono (by omega) (by omega)
  | mk1 x =>
    obtain ⟨a, rfl⟩ := len1 hf
    obtain ⟨b1, b2, h1, _, hb⟩ := Sms.uncons hk
    exact (Sm.tuple (Sms.cons (wd (x := "make") (by decide +kernel)) (Sms.cons (x0 ho) (Sms.one h1)))).mono (by omega) (by omega)
  | mt xs =>
    obtain ⟨a, r, rfl, hr⟩ := lenC hf
    rw [List.length_cons] at h4
    obtain ⟨b1, b2, h1, g, hb⟩ := Sms.uncons hk
    have hp := pairs_sm (xs := xs) (fun x m => (ho x m).mono hD (Nat.le_refl 390)) g
    have hx : xs.length * (390 + 3) ≤ 3 * 393 := Nat.mul_le_mul (by omega) (by decide)
    exact (Sm.tuple (k := D + 2) (Sms.cons (wd (x := "match") (by decide +kernel)) (Sms.cons (h1.mono (show D ≤ D + 2 by omega) (Nat.le_refl _)) (Sms.one (Sm.tuple hp))))).mono (by omega) (by omega)
  | op x =>
    obtain ⟨a, c, rfl⟩ := len2 hf
    obtain ⟨b1, b2, h1, g, hb⟩ := Sms.uncons hk
    obtain ⟨b3, b4, h2, _, hb2⟩ := Sms.uncons g
    exact (Sm.tuple (Sms.cons (wd (x := "op") (by decide +kernel)) (Sms.cons (x0 ho) (Sms.cons h1 (Sms.one h2))))).mono (by omega) (by omega)
  | fl w => exact (Sm.tuple (Sms.cons (wd ho) hk)).mono (by omega) (by omega)
mutual
theorem enc_sm : ∀ t : Tm, Wf t → Ok t → Sm (3 * ht t + 8) (1310 * size t) (enc t)
  | .node h ks, ⟨⟨hf, h4⟩, w⟩, ⟨ho, o⟩ => by
    have hk := encs_sm ks w o
    rw [enc, encs_map]
    rw [encs_map] at hk
    have r := node_sm (h := h) (ks := ks.map enc) (by rw [List.length_map]; exact hf) (by rw [List.length_map]; exact h4) ho (by omega) hk
    rw [ht, size]
    exact r.mono (by omega) (by omega)
theorem encs_sm : ∀ ks : List Tm, Wfs ks → Oks ks → Sms (3 * hts ks + 8) (1310 * sizes ks + ks.length) (encs ks)
  | [], _, _ => Sms.nil
  | k :: ks, ⟨w, ws⟩, ⟨o, os⟩ => by
    have h1 := enc_sm k w o
    have h2 := encs_sm ks ws os
    rw [encs, hts, sizes, List.length_cons]
    exact (Sms.cons (h1.mono (k' := 3 * max (ht k) (hts ks) + 8) (by have := Nat.le_max_left (ht k) (hts ks); omega) (Nat.le_refl _)) (h2.mono (k' := 3 * max (ht k) (hts ks) + 8) (by have := Nat.le_max_right (ht k) (hts ks); omega) (Nat.le_refl _))).mono (Nat.le_refl _) (by omega)
end
/-- good: it stands as it should, and its values are small -/
structure Gd (t : Tm) : Prop where
  w : Wf t
  o : Ok t
theorem gd_at {p : List Nat} {t u : Tm} (h : Gd t) (e : at_ t p = some u) : Gd u := by
  refine ⟨at_wf p h.w e, ?_⟩
  induction p generalizing t with
  | nil => cases e; exact h.o
  | cons i p ih =>
    rw [at_] at e
    cases q : t.kids[i]? with
    | none => rw [q] at e; cases e
    | some k =>
      rw [q] at e
      have m := List.mem_of_getElem? q
      exact ih ⟨(wf_iff.mp h.w).2 k m, (ok_iff.mp h.o).2 k m⟩ e
theorem gd_put : ∀ (p : List Nat) {t u q : Tm}, Gd t → Gd q → at_ t p = some u → Gd (put t p q)
  | [], t, u, q, _, h, _ => h
  | i :: p, t, u, q, ht_, hq, e => by
    refine ⟨put_wf (i :: p) ht_.w hq.w e, ?_⟩
    rw [at_] at e
    cases h : t.kids[i]? with
    | none => rw [h] at e; cases e
    | some k =>
      rw [h] at e
      have m := List.mem_of_getElem? h
      rw [put_cons h]
      refine ok_iff.mpr ⟨(ok_iff.mp ht_.o).1, fun k' mk => ?_⟩
      rcases List.mem_or_eq_of_mem_set mk with mk | rfl
      · exact (ok_iff.mp ht_.o).2 k' mk
      · exact (gd_put p ⟨(wf_iff.mp ht_.w).2 k m, (ok_iff.mp ht_.o).2 k m⟩ hq e).o
theorem put_ht2 : ∀ (p : List Nat) {t u q : Tm}, at_ t p = some u → ht (put t p q) ≤ max (ht t) (p.length + ht q)
  | [], t, u, q, _ => by show ht q ≤ _; simp; omega
  | i :: p, t, u, q, e => by
    rw [at_] at e
    cases h : t.kids[i]? with
    | none => rw [h] at e; cases e
    | some k =>
      rw [h] at e
      have ih := put_ht2 p (q := q) e
      have hk := ht_kid (List.mem_of_getElem? h)
      rw [put_cons h]
      cases t with
      | node hd ks =>
        show ht (.node hd (ks.set i (put k p q))) ≤ max (ht (.node hd ks)) ((i :: p).length + ht q)
        rw [ht, ht, List.length_cons] at *
        have : hts (ks.set i (put k p q)) ≤ max (hts ks) (p.length + ht q) := hts_le fun k' m => by
          rcases List.mem_or_eq_of_mem_set m with m | rfl
          · have := hts_mem m
            omega
          · have : ht k ≤ hts ks := hts_mem (List.mem_of_getElem? h)
            omega
        omega
end P4
end VI
set_option Elab.async false
set_option linter.all false
set_option maxRecDepth 100000
namespace VI
open PySem PySem.Spec PyProof.Rows L2
namespace P4

/-- a good term, not high, not great -/
def TS (d : Nat) (x : PyData) : Prop := ∃ t, x = enc t ∧ Gd t ∧ ht t ≤ 2 * d + 1 ∧ size t ≤ 150
section
variable {l : Nat}
noncomputable abbrev stB (call : Calls) : FS := (fSeq (fAsg (fCall 2 (call 30) (fAc (fVar 0) (fAc (fVar 1) fA0))) (gtName 3)) (fSeq (fIf (fTest (f2 gLe (fCall 1 (call 17) (fAc (fVar 3) fA0)) (fC (.int 150)))) (fRet (fVar 3)) fNext) (fAsg (fL gMax2 (fAc (fC (.int 1)) (fAc (f2 gSub (fVar 1) (fC (.int 1))) fA0))) (gtName 1))))
theorem st_loop {d : Nat} (hd : 1 ≤ d) : ∀ (ws : List W) (e : Nat) (N : Nat) (S : Store) (a2 a3 : Option W), 1 ≤ e → e ≤ d → d ≤ 6 → BG S l N → N + ws.length * ct 6 < 2 ^ 58 →
    ∃ N' S', N' ≤ N + ws.length * ct 6 ∧ BG S' l N' ∧ K1 l S S' ∧ ((∃ x, forL (fun _ => True) (gtName 2) (stB (callN 39)) ws [some (.loc l), some (iw (e : Int)), a2, a3] S = .ret (.d x) S' ∧ TS d x) ∨ ∃ ρ', forL (fun _ => True) (gtName 2) (stB (callN 39)) ws [some (.loc l), some (iw (e : Int)), a2, a3] S = .next ρ' S')
  | [], e, N, S, a2, a3, _, _, _, hb, _ => ⟨N, S, by omega, hb, ⟨rfl, fun _ _ => rfl⟩, .inr ⟨_, by simp only [forL, if_true]; rfl⟩⟩
  | x :: ws, e, N, S, a2, a3, h1, he, h6, hb, hN => by
    rw [List.length_cons, Nat.succ_mul] at hN
    have hc : ct e ≤ ct 6 := ct_mono (by omega)
    obtain ⟨y, S1, e1, ⟨t, rfl, w, o, hh⟩, b1, k1⟩ := d_term (l := l) e 39 (by omega) S N hb (by omega)
    have b1' : BG S1 l (N + ct e) := b1
    have f30 : fCall 2 (callN 39 30) (fAc (fVar 0) (fAc (fVar 1) fA0)) [some (.loc l), some (iw (e : Int)), some x, a3] S = .ok (.d (enc t)) S1 := fcall_at (ws := [.loc l, iw (e : Int)]) (ev_ac (ev_var rfl) (ev_one (ev_var rfl))) e1 k1.1 rfl
    have k17 : callN 39 17 [.d (enc t)] S1 = .ok (iw (size t : Int)) S1 := k_size17 13 t w (by omega) 25 S1
    have tt : fTest (f2 gLe (fCall 1 (callN 39 17) (fAc (fVar 3) fA0)) (fC (.int 150))) [some (.loc l), some (iw (e : Int)), some x, some (.d (enc t))] S1 = .ok (decide ((size t : Int) ≤ 150)) S1 := ev_test (ev_f2 (fcall_at (ws := [.d (enc t)]) (ev_one (ev_var rfl)) k17 rfl rfl) rfl rfl)
    by_cases hs : size t ≤ 150
    · refine ⟨N + ct e, S1, by rw [List.length_cons, Nat.succ_mul]; omega, b1', k1, .inl ⟨enc t, ?_, t, rfl, ⟨w, o⟩, by omega, hs⟩⟩
      rw [decide_eq_true (by omega)] at tt
      rw [forL, if_pos trivial]
      show (match stB _ [some (.loc l), some (iw (e : Int)), some x, a3] S with | .next ρ2 S2 => forL _ _ _ _ ρ2 S2 | .cnt ρ2 S2 => _ | .brk ρ2 S2 => _ | r => r) = _
      rw [show stB (callN 39) [some (.loc l), some (iw (e : Int)), some x, a3] S = .ret (.d (enc t)) S1 from (ev_seq (ρ1 := [some (.loc l), some (iw (e : Int)), some x, some (.d (enc t))]) (S1 := S1) (ev_asg f30)).trans (take_if tt (ev_ret (ev_var rfl)))]
    · rw [decide_eq_false (by omega)] at tt
      have mx : fL gMax2 (fAc (fC (.int 1)) (fAc (f2 gSub (fVar 1) (fC (.int 1))) fA0)) [some (.loc l), some (iw (e : Int)), some x, some (.d (enc t))] S1 = .ok (iw ((max 1 (e - 1) : Nat) : Int)) S1 := by
        refine ev_L (ws := [iw 1, iw ((e : Int) - 1)]) (ev_ac rfl (ev_one (ev_f2 (ev_var rfl) rfl rfl))) ?_
        show some (iw (if (e : Int) - 1 > 1 then (e : Int) - 1 else 1), S1) = _
        rw [show (if (e : Int) - 1 > 1 then (e : Int) - 1 else 1) = ((max 1 (e - 1) : Nat) : Int) by split <;> omega]
      obtain ⟨N2, S2, hN2, b2, k2, h2⟩ := st_loop hd ws (max 1 (e - 1)) (N + ct e) S1 (some x) (some (.d (enc t))) (by omega) (by omega) h6 b1' (by omega)
      refine ⟨N2, S2, by rw [List.length_cons, Nat.succ_mul]; omega, b2, ⟨k2.1.trans k1.1, fun i hi => (k2.2 i hi).trans (k1.2 i hi)⟩, ?_⟩
      have bd : stB (callN 39) [some (.loc l), some (iw (e : Int)), some x, a3] S = .next [some (.loc l), some (iw ((max 1 (e - 1) : Nat) : Int)), some x, some (.d (enc t))] S1 := (ev_seq (ρ1 := [some (.loc l), some (iw (e : Int)), some x, some (.d (enc t))]) (S1 := S1) (ev_asg f30)).trans ((skip_if tt).trans (ev_asg mx))
      have fl : forL (fun _ => True) (gtName 2) (stB (callN 39)) (x :: ws) [some (.loc l), some (iw (e : Int)), a2, a3] S = forL (fun _ => True) (gtName 2) (stB (callN 39)) ws [some (.loc l), some (iw ((max 1 (e - 1) : Nat) : Int)), some x, some (.d (enc t))] S1 := by
        rw [forL, if_pos trivial]
        show (match stB _ [some (.loc l), some (iw (e : Int)), some x, a3] S with | .next ρ2 S2 => forL _ _ _ _ ρ2 S2 | .cnt ρ2 S2 => _ | .brk ρ2 S2 => _ | r => r) = _
        rw [bd]
      rw [fl]
      exact h2
theorem d_some {d : Nat} (h1 : 1 ≤ d) (h6 : d ≤ 6) : DrF (W1 l) (callN 40 31) [iw (d : Int)] (4 * ct 6) (TS d) := by
  intro S N hI hN
  obtain ⟨N', S1, hN1, b1, k1, h⟩ := st_loop (l := l) h1 (rangeW 0 4) d N S none none h1 (Nat.le_refl _) h6 hI (by rw [rangeW_len]; exact hN)
  rw [rangeW_len] at hN1
  have it : fRng rng1 (fAc (fC (.int 4)) fA0) [some (.loc l), some (iw (d : Int)), none, none] S = .ok ⟨rangeW 0 4, fun _ => True⟩ S := rng_nat 4 (by decide)
  rcases h with ⟨x, e, p⟩ | ⟨ρ', e⟩
  · refine ⟨x, S1, ?_, p, b1.mono hN1, k1⟩
    show toR (b31 (callN 39) [some (.loc l), some (iw (d : Int)), none, none] S) = _
    unfold b31
    refine ret_ok (ev_seqR ?_)
    unfold fFor
    rw [it]
    exact e
  · refine ⟨enc (.node .tup []), S1, ?_, ⟨.node .tup [], rfl, ⟨⟨⟨trivial, by decide⟩, trivial⟩, ⟨trivial, trivial⟩⟩, by show 1 + 0 ≤ _; omega, by decide⟩, b1.mono hN1, k1⟩
    show toR (b31 (callN 39) [some (.loc l), some (iw (d : Int)), none, none] S) = _
    unfold b31
    refine ret_ok ((ev_seq (ρ1 := ρ') (S1 := S1) ?_).trans rfl)
    unfold fFor
    rw [it]
    exact e
end
theorem k_alike4 (n : Nat) {w u : W} {d : PyData} {S : Store} (hw : asD w S = some d) (hu : asD u S = some d) (h : Fine d) : callN (n + 1) 15 [w, u] S = .ok (bt true) S := alike_run hw hu h
theorem no_alike4 (n : Nat) {fa fb : FE} {ρ : Rho} {S S1 S2 : Store} {d : PyData} (ea : fa ρ S = .ok (.d d) S1) (eb : fb ρ S1 = .ok (.d d) S2) (h : Fine d) : fNotT (fTru (fCall 2 (callN (n + 1) 15) (fAc fa (fAc fb fA0)))) ρ S = .ok false S2 := by
  have f9 : fCall 2 (callN (n + 1) 15) (fAc fa (fAc fb fA0)) ρ S = .ok (bt true) S2 := fcall_at (ws := [.d d, .d d]) (ev_ac ea (ev_one eb)) (k_alike4 n (by rw [asD]) (by rw [asD]) h) rfl rfl
  unfold fNotT fTru
  rw [f9]
  rfl
/-! calls of the program's functions, with slots -/
section
variable {ρ : Rho} {S : Store} {t u q : Tm} {p o : List Nat} {ft fp fq : FE}
theorem c_at (w : Gd t) (e : at_ t p = some u) (h1 : ft ρ S = .ok (.d (enc t)) S) (h2 : fp ρ S = .ok (plW p) S) (n : Nat) : fCall 2 (callN (n + 4) 9) (fAc ft (fAc fp fA0)) ρ S = .ok (.d (enc u)) S := fcall_at (ws := [.d (enc t), plW p]) (ev_ac h1 (ev_one h2)) (k_at n w.w e S) rfl rfl
theorem c_lat (w : Gd t) (e : at_ t p = some u) (h1 : ft ρ S = .ok (.d (enc t)) S) (h2 : fp ρ S = .ok (plW p) S) (n : Nat) : fCall 2 (callN (n + 2) 20) (fAc ft (fAc fp fA0)) ρ S = .ok (.d (enc u)) S := fcall_at (ws := [.d (enc t), plW p]) (ev_ac h1 (ev_one h2)) (k_lat n w.w e S) rfl rfl
theorem c_lplaces (w : Gd t) {n : Nat} (hh : ht t ≤ n) (hn : n < 1000) (hs : size t < 100000) (j : Nat) (h1 : ft ρ S = .ok (.d (enc t)) S) : fCall 1 (callN (n + 1 + j) 19) (fAc ft fA0) ρ S = .ok (.d (.list ((places t).map plD))) S := fcall_new (ws := [.d (enc t)]) (ev_one h1) (k_lplaces n t w.w hh hn hs j S) rfl
theorem c_places (w : Gd t) (hh : ht t < 1000) (hs : size t < 100000) (n : Nat) (h1 : ft ρ S = .ok (.d (enc t)) S) : fCall 1 (callN (n + 4) 7) (fAc ft fA0) ρ S = .ok (tu ((places t).map plD)) S := by
  obtain ⟨S', e, ts⟩ := k_places n w.w hh hs S
  have r := ev_cd (n := 1) (fa := fAc ft fA0) (ρ := ρ) (ws := [.d (enc t)]) (ev_one h1) e rfl
  rw [ts] at r
  exact r
end
theorem pl_sm {p : List Nat} (h : ∀ i ∈ p, i < 1000) : Sm 1 p.length (plD p) := by
  have r := Sms.all (k := 0) (b := 0) (ds := (natI p).map PyData.int) fun d m => by
    obtain ⟨i, m1, rfl⟩ := List.mem_map.mp m
    obtain ⟨k, m2, rfl⟩ := List.mem_map.mp m1
    have := h k m2
    exact Sm.int (by omega)
  exact Sm.tuple (r.mono (Nat.le_refl _) (by unfold natI; rw [List.length_map, List.length_map]; omega))
theorem place_small : ∀ {p : List Nat} {t u : Tm}, Wf t → at_ t p = some u → ∀ i ∈ p, i < 1000
  | [], t, u, _, _, i, m => by cases m
  | j :: p, t, u, w, e, i, m => by
    rw [at_] at e
    cases q : t.kids[j]? with
    | none => rw [q] at e; cases e
    | some k =>
      rw [q] at e
      have hj := (List.getElem?_eq_some_iff.mp q).1
      have := (wf_iff.mp w).1.2
      rcases List.mem_cons.mp m with rfl | m
      · omega
      · exact place_small ((wf_iff.mp w).2 k (List.mem_of_getElem? q)) e i m
theorem places_sm {t : Tm} (w : Wf t) (hh : ht t ≤ 40) (hs : size t ≤ 400) : Sms 1 20000 ((places t).map plD) := by
  refine (Sms.all (k := 1) (b := 40) fun d m => ?_).mono (Nat.le_refl _) (by rw [List.length_map, places_len]; have : size t * 41 ≤ 400 * 41 := Nat.mul_le_mul_right _ hs; omega)
  obtain ⟨p, m1, rfl⟩ := List.mem_map.mp m
  obtain ⟨u, e⟩ := (mem_at p).mp m1
  have := place_len m1
  exact (pl_sm (place_small w e)).mono (Nat.le_refl _) (by omega)
theorem two_fine {t u : Tm} (a : Gd t) (b : Gd u) (h1 : ht t ≤ 18) (h2 : ht u ≤ 18) (hs : size t + size u ≤ 700) : Fine (.list [enc t, enc u]) :=
  (Sm.list (k := 62) (b := 920000) ((Sms.cons ((enc_sm t a.w a.o).mono (by omega) (Nat.le_refl _)) (Sms.one ((enc_sm u b.w b.o).mono (by omega) (Nat.le_refl _)))).mono (Nat.le_refl _) (by omega))).fine (by decide) (by decide)
theorem one_fine {t : Tm} (a : Gd t) (h1 : ht t ≤ 18) (hs : size t ≤ 700) : Fine (enc t) :=
  (enc_sm t a.w a.o).fine (by omega) (by omega)
end P4
end VI
set_option Elab.async false
set_option linter.all false
set_option maxRecDepth 100000
namespace VI
open PySem PySem.Spec PyProof.Rows L2
namespace P4

theorem len_pl (p : List Nat) {S : Store} : gLen [plW p] S = some (iw (p.length : Int), S) := by
  show some (iw (((natI p).map PyData.int).length : Int), S) = _
  unfold natI
  rw [List.length_map, List.length_map]
theorem sl_pl {a b : FE} {ρ : Rho} {S : Store} {o p : List Nat} (ha : a ρ S = .ok (plW o) S) (hb : b ρ S = .ok (plW p) S) : fSl gSlA a fNoPart (fPart (fL gLen (fAc b fA0))) ρ S = .ok (plW (o.take p.length)) S := by
  have ln : fL gLen (fAc b fA0) ρ S = .ok (iw (p.length : Int)) S := ev_L (ws := [plW p]) (ev_one hb) (len_pl p)
  simp only [fSl, ha, R_ok, fNoPart, fPart, ln, intOf, pl_take, lift_some]
theorem ne_take {a b : FE} {ρ : Rho} {S : Store} {o p : List Nat} (ha : a ρ S = .ok (plW o) S) (hb : b ρ S = .ok (plW p) S) : fTest (f2 gNe (fSl gSlA a fNoPart (fPart (fL gLen (fAc b fA0)))) b) ρ S = .ok (!decide (o.take p.length = p)) S := ev_test (ev_f2 (sl_pl ha hb) hb (ne_pl _ _))
noncomputable abbrev othB (call : Calls) : FS := (fIf (fAndT (fTest (f2 gNe (fSl gSlA (fVar 6) fNoPart (fPart (fL gLen (fAc (fVar 2) fA0)))) (fVar 2))) (fTest (f2 gNe (fSl gSlA (fVar 2) fNoPart (fPart (fL gLen (fAc (fVar 6) fA0)))) (fVar 6)))) (fIf (fNotT (fTru (fCall 2 (call 15) (fAc (fCall 2 (call 9) (fAc (fVar 4) (fAc (fVar 6) fA0))) (fAc (fCall 2 (call 20) (fAc (fVar 1) (fAc (fVar 6) fA0))) fA0))))) (fRet (fC (.bool false))) fNext) fNext)
section
variable {l : Nat} {t u q : Tm} {p : List Nat}
abbrev rowP (l : Nat) (t q T : Tm) (p : List Nat) (a6 a7 a8 a9 : Option W) : Rho := [some (.loc l), some (.d (enc t)), some (plW p), some (.d (enc q)), some (.d (enc T)), some (.d (enc T)), a6, a7, a8, a9]
theorem oth_step {o : List Nat} {a7 a8 a9 : Option W} {S : Store} (gt : Gd t) (gT : Gd (put t p q)) (ht_ : ht t ≤ 13) (hs : size t ≤ 150) (e : at_ t p = some u) (ho : o ∈ places t) : othB (callN 39) (rowP l t q (put t p q) p (some (plW o)) a7 a8 a9) S = .next (rowP l t q (put t p q) p (some (plW o)) a7 a8 a9) S := by
  have t1 := ne_take (a := fVar 6) (b := fVar 2) (ρ := rowP l t q (put t p q) p (some (plW o)) a7 a8 a9) (S := S) (o := o) (p := p) rfl rfl
  have t2 := ne_take (a := fVar 2) (b := fVar 6) (ρ := rowP l t q (put t p q) p (some (plW o)) a7 a8 a9) (S := S) (o := p) (p := o) rfl rfl
  have tt : fAndT (fTest (f2 gNe (fSl gSlA (fVar 6) fNoPart (fPart (fL gLen (fAc (fVar 2) fA0)))) (fVar 2))) (fTest (f2 gNe (fSl gSlA (fVar 2) fNoPart (fPart (fL gLen (fAc (fVar 6) fA0)))) (fVar 6))) (rowP l t q (put t p q) p (some (plW o)) a7 a8 a9) S = .ok (!decide (o.take p.length = p) && !decide (p.take o.length = o)) S := by
    unfold fAndT
    rw [t1, R_ok]
    cases hc : (!decide (o.take p.length = p)) with
    | true => rw [if_pos rfl]; exact t2
    | false => rw [if_neg (by decide)]; rfl
  by_cases hc : (!decide (o.take p.length = p) && !decide (p.take o.length = o)) = true
  · rw [hc] at tt
    refine (ev_yes tt).trans ?_
    rw [Bool.and_eq_true, Bool.not_eq_true', Bool.not_eq_true', decide_eq_false_iff_not, decide_eq_false_iff_not] at hc
    obtain ⟨v, hv⟩ := (mem_at o).mp ho
    have hv2 : at_ (put t p q) o = some v := by rw [put_other p o e hc.1 hc.2]; exact hv
    have gv := gd_at gt hv
    have hvh := at_ht o hv
    have hvs := at_size o hv
    have a1 := c_at (ρ := rowP l t q (put t p q) p (some (plW o)) a7 a8 a9) (S := S) (ft := fVar 4) (fp := fVar 6) gT hv2 rfl rfl 35
    have a2 := c_lat (ρ := rowP l t q (put t p q) p (some (plW o)) a7 a8 a9) (S := S) (ft := fVar 1) (fp := fVar 6) gt hv rfl rfl 37
    exact (ev_no (no_alike4 38 a1 a2 (one_fine gv (by omega) (by omega)))).trans rfl
  · rw [Bool.not_eq_true] at hc
    rw [hc] at tt
    exact (ev_no tt).trans rfl
theorem oth_loop {a7 a8 a9 : Option W} {ok : Store → Prop} {S : Store} (hok : ∀ S, ok S) (gt : Gd t) (gT : Gd (put t p q)) (ht_ : ht t ≤ 13) (hs : size t ≤ 150) (e : at_ t p = some u) : ∀ (ds : List PyData) (a6 : Option W), (∀ d ∈ ds, ∃ o ∈ places t, d = plD o) → ∃ b6, forL ok (gtName 6) (othB (callN 39)) (ds.map W.d) (rowP l t q (put t p q) p a6 a7 a8 a9) S = .next (rowP l t q (put t p q) p b6 a7 a8 a9) S
  | [], a6, _ => ⟨a6, by simp only [List.map_nil, forL, if_pos (hok S)]⟩
  | d :: ds, a6, h => by
    obtain ⟨o, ho, rfl⟩ := h d (by simp)
    obtain ⟨b6, ih⟩ := oth_loop hok gt gT ht_ hs e ds (some (plW o)) fun d' m => h d' (by simp [m])
    refine ⟨b6, ?_⟩
    rw [List.map_cons, forL, if_pos (hok S)]
    show (match othB _ (rowP l t q (put t p q) p (some (plW o)) a7 a8 a9) S with | .next ρ2 S2 => forL ok _ _ _ ρ2 S2 | .cnt ρ2 S2 => _ | .brk ρ2 S2 => _ | r => r) = _
    rw [oth_step gt gT ht_ hs e ho]
    exact ih
def belW (p : List Nat) (w : W) : PyData := match w with
  | .d (.tuple xs) => .tuple ((natI p).map PyData.int ++ xs)
  | _ => .none
theorem bel_map (p : List Nat) (ps : List (List Nat)) : ((ps.map plD).map W.d).map (belW p) = (ps.map (p ++ ·)).map plD := by
  rw [List.map_map, List.map_map, List.map_map]
  refine List.map_congr_left fun o _ => ?_
  show PyData.tuple ((natI p).map PyData.int ++ (natI o).map PyData.int) = tupD (natI (p ++ o))
  unfold tupD
  rw [natI_append, List.map_append]
def intN (x : PyData) : Nat := match x with
  | .int i => i.toNat
  | _ => 0
def plOf (w : W) : List Nat := match w with
  | .d (.tuple xs) => xs.map intN
  | _ => []
theorem plOf_pl (o : List Nat) : plOf (plW o) = o := by
  show ((natI o).map PyData.int).map intN = o
  unfold natI
  rw [List.map_map, List.map_map]
  refine (List.map_congr_left (g := id) fun i _ => ?_).trans (List.map_id o)
  show ((i : Int)).toNat = i
  omega
theorem kept_map (p : List Nat) (ps : List (List Nat)) : ((((ps.map plD).map W.d)).filter (fun w => keptB p (plOf w))).map (fun w => plD (plOf w)) = (ps.filter (keptB p)).map plD := by
  induction ps with
  | nil => rfl
  | cons o ps ih =>
    show ((plW o :: ((ps.map plD).map W.d)).filter _).map _ = _
    by_cases h : keptB p o = true
    · rw [List.filter_cons_of_pos (by rw [plOf_pl]; exact h), List.filter_cons_of_pos h, List.map_cons, List.map_cons, ih, plOf_pl]
    · rw [List.filter_cons_of_neg (by rw [plOf_pl]; exact h), List.filter_cons_of_neg h, ih]
theorem strs_none : ∀ {o : List Nat} {r : List (List Nat)}, strsD ((o :: r).map plD) = none := fun {o r} => rfl
theorem srt_pl {ps : List (List Nat)} {r : List (List Nat)} (h : ps = [] :: r) (hz : ps.length < 1000000) {S : Store} : gSortA [.d (.list (ps.map plD))] S = some (.d (.list ((srtT (ps.map natI)).map tupD)), S) := by
  have e0 : gSorted [.d (.list (ps.map plD))] S = none := by
    subst h
    unfold gSorted
    simp only [asLW, datas_map, strs_none]
  have em : ps.map plD = (ps.map natI).map tupD := by rw [List.map_map]; rfl
  unfold gSortA
  rw [e0]
  show gSortT [.d (.list (ps.map plD))] S = _
  unfold gSortT
  simp only [asLW, datas_map, em, tupsD_map]
  subst h
  rw [List.length_cons] at hz
  show (if (r.map natI).length < 1000000 then _ else none) = _
  rw [if_pos (by rw [List.length_map]; omega)]
  rfl
theorem k_ipr {N : Nat} {S : Store} (gt : Gd t) (gq : Gd q) (ht_ : ht t ≤ 13) (hq_ : ht q ≤ 6) (hs : size t ≤ 150) (hsq : size q ≤ 151) (e : at_ t p = some u) (hb : BG S l N) (hN : N + 200 < 2 ^ 58) :
    ∃ S', callN 40 32 [.loc l, .d (enc t), plW p, .d (enc q)] S = .ok (bt true) S' ∧ BG S' l (N + 200) ∧ K1 l S S' := by
  have hp := at_len p e
  have hu1 : 1 ≤ ht u := by cases u; rw [ht]; omega
  have gT := gd_put p gt gq e
  have hT1 := put_ht2 p (q := q) e
  have hT2 := put_size p (q := q) e
  have qe := put_at p (q := q) e
  -- told, due
  obtain ⟨Sa, ea, ta⟩ := k_put 34 gt.w gq.w e (by omega) S
  obtain ⟨Sb, eb, tb⟩ := k_lput p (37 - p.length) S gt.w gq.w e
  rw [show p.length + 2 + (37 - p.length) = 39 by omega] at eb
  have f10 : fCall 3 (callN 39 10) (fAc (fVar 1) (fAc (fVar 2) (fAc (fVar 3) fA0))) [some (.loc l), some (.d (enc t)), some (plW p), some (.d (enc q)), none, none, none, none, none, none] S = .ok (.d (enc (put t p q))) S := by
    have r := ev_cd (n := 3) (fa := fAc (fVar 1) (fAc (fVar 2) (fAc (fVar 3) fA0))) (ρ := [some (.loc l), some (.d (enc t)), some (plW p), some (.d (enc q)), none, none, none, none, none, none]) (ws := [.d (enc t), plW p, .d (enc q)]) (S := S) rfl ea rfl
    rw [ta] at r
    exact r
  have f21 : fCall 3 (callN 39 21) (fAc (fVar 1) (fAc (fVar 2) (fAc (fVar 3) fA0))) [some (.loc l), some (.d (enc t)), some (plW p), some (.d (enc q)), none, none, none, none, none, none] S = .ok (.d (enc (put t p q))) S := by
    have r := ev_cd (n := 3) (fa := fAc (fVar 1) (fAc (fVar 2) (fAc (fVar 3) fA0))) (ρ := [some (.loc l), some (.d (enc t)), some (plW p), some (.d (enc q)), none, none, none, none, none, none]) (ws := [.d (enc t), plW p, .d (enc q)]) (S := S) rfl eb rfl
    rw [tb] at r
    exact r
  -- others
  have lpl : ∀ {ft : FE} {ρ : Rho} {S : Store} {v : Tm}, Gd v → ht v ≤ 18 → size v ≤ 400 → ft ρ S = .ok (.d (enc v)) S → fCall 1 (callN 39 19) (fAc ft fA0) ρ S = .ok (.d (.list ((places v).map plD))) S := fun gv hv sv h1 => c_lplaces gv (n := 18) hv (by decide) (by omega) 20 h1
  obtain ⟨ms, S1, pm, e1, z1, b1, k1⟩ := mixed_bg 37 (n2 := 0) (S := S) (l := l) (N := N) (ds := (places t).map plD) (fa := fAc (fVar 0) (fAc (fCall 1 (callN 39 19) (fAc (fVar 1) fA0)) fA0)) (ρ := rowP l t q (put t p q) p none none none none) hb (by rw [List.length_map, places_len]; omega) (by rw [List.length_map, places_len]; omega) (ev_ac rfl (ev_one (lpl gt (by omega) (by omega) rfl)))
  rw [List.length_map, places_len] at b1
  have b1' : BG S1 l (N + 200) := b1.mono (by omega)
  refine ⟨S1, ?_, b1', z1, k1⟩
  have msm : ∀ d ∈ ms.take 6, ∃ o ∈ places t, d = plD o := fun d md => by
    obtain ⟨o, ho, rfl⟩ := List.mem_map.mp (pm.mem_iff.mp (List.mem_of_mem_take md))
    exact ⟨o, ho, rfl⟩
  have es : fSl gSlA (fCall 2 (callN 39 14) (fAc (fVar 0) (fAc (fCall 1 (callN 39 19) (fAc (fVar 1) fA0)) fA0))) fNoPart (fPart (fC (.int 6))) (rowP l t q (put t p q) p none none none none) S = .ok (.d (.list (ms.take 6))) S1 := by
    have sl : gSlA (.d (.list ms)) none (some 6) S1 = some (.d (.list (ms.take 6)), S1) := by
      show some (W.d (.list (cutG ms none (some ((6 : Nat) : Int)))), S1) = _
      rw [cut_to]
    unfold fSl
    rw [e1, R_ok]
    show (R.ok none S1 : R (Option Int)).bind _ = _
    rw [R_ok]
    show (R.ok (some 6) S1 : R (Option Int)).bind _ = _
    rw [R_ok, sl]
    rfl
  have hit : ∃ ok, (∀ S, ok S) ∧ fItS (fSl gSlA (fCall 2 (callN 39 14) (fAc (fVar 0) (fAc (fCall 1 (callN 39 19) (fAc (fVar 1) fA0)) fA0))) fNoPart (fPart (fC (.int 6)))) (rowP l t q (put t p q) p none none none none) S = .ok ⟨(ms.take 6).map W.d, ok⟩ S1 := by
    refine ⟨fun _ => True, fun _ => trivial, ?_⟩
    unfold fItS
    rw [es]
    rfl
  obtain ⟨ok, hok, hit⟩ := hit
  obtain ⟨c6, lp⟩ := oth_loop (l := l) (q := q) (a7 := none) (a8 := none) (a9 := none) (S := S1) hok gt gT ht_ hs e (ms.take 6) none msm
  -- below, kept
  have pw := place_small gt.w e
  have bel : fLc (fItS (fCall 1 (callN 39 19) (fAc (fVar 3) fA0))) (gtName 8) fYes (f2 gAdd (fVar 2) (fVar 8)) [8] (rowP l t q (put t p q) p c6 none none none) S1 = .ok (.d (.list ((below q p).map plD))) S1 := by
    obtain ⟨ok2, hok2, hit2⟩ := it_pure (a := fCall 1 (callN 39 19) (fAc (fVar 3) fA0)) (ρ := rowP l t q (put t p q) p c6 none none none) (S := S1) (lpl gq (by omega) (by omega) rfl) (.inl rfl)
    have r := flc_all (g := gtName 8) (el := f2 gAdd (fVar 2) (fVar 8)) (vs := [8]) (f := belW p) hit2 (by rw [List.length_map, List.length_map, places_len]; omega) (fun S' _ => hok2 S') fun w m S' s => by
      obtain ⟨x, m1, rfl⟩ := List.mem_map.mp m
      obtain ⟨o, m2, rfl⟩ := List.mem_map.mp m1
      refine ⟨_, rfl, ev_f2 (x := plW p) (y := plW o) rfl rfl ?_⟩
      have := place_len m2
      exact g_catT (by unfold natI; rw [List.length_map, List.length_map, List.length_map, List.length_map]; omega)
    rw [bel_map] at r
    exact r
  have kpt : fLc (fItS (fCall 1 (callN 39 19) (fAc (fVar 1) fA0))) (gtName 8) (fTest (f2 gNe (fSl gSlA (fVar 8) fNoPart (fPart (fL gLen (fAc (fVar 2) fA0)))) (fVar 2))) (fVar 8) [8] (rowP l t q (put t p q) p c6 (some (.d (.list ((below q p).map plD)))) none none) S1 = .ok (.d (.list ((kept t p).map plD))) S1 := by
    obtain ⟨ok2, hok2, hit2⟩ := it_pure (a := fCall 1 (callN 39 19) (fAc (fVar 1) fA0)) (ρ := rowP l t q (put t p q) p c6 (some (.d (.list ((below q p).map plD)))) none none) (S := S1) (lpl gt (by omega) (by omega) rfl) (.inl rfl)
    have r := flc_gen (g := gtName 8) (t := fTest (f2 gNe (fSl gSlA (fVar 8) fNoPart (fPart (fL gLen (fAc (fVar 2) fA0)))) (fVar 2))) (el := fVar 8) (vs := [8]) (f := fun w => plD (plOf w)) (b := fun w => keptB p (plOf w)) hit2 (by rw [List.length_map, List.length_map, places_len]; omega) (fun S' _ => hok2 S') fun w m S' s => by
      obtain ⟨x, m1, rfl⟩ := List.mem_map.mp m
      obtain ⟨o, m2, rfl⟩ := List.mem_map.mp m1
      rw [plOf_pl]
      exact ⟨_, rfl, ne_take rfl rfl, fun _ => rfl⟩
    rw [kept_map] at r
    exact r
  -- the end
  obtain ⟨r, hr⟩ := kept_first (p := p) (t := t) (u := u) (q := q)
  have kl : (kept t p ++ below q p).length < 1000000 := by
    unfold kept below
    rw [List.length_append, List.length_map, places_len]
    have := List.length_filter_le (keptB p) (places t)
    rw [places_len] at this
    omega
  have srt := srt_pl hr kl (S := S1)
  rw [← places_srt (q := q) e, List.map_append] at srt
  have cl : gAdd (.d (.list ((kept t p).map plD))) (.d (.list ((below q p).map plD))) S1 = some (.d (.list ((kept t p).map plD ++ (below q p).map plD)), S1) := by
    unfold gAdd
    simp only [asL]
    rw [if_pos (by rw [List.length_map, List.length_map]; rw [List.length_append] at kl; show _ ≤ 16777216; omega)]
  show toR (b32 (callN 39) [some (.loc l), some (.d (enc t)), some (plW p), some (.d (enc q)), none, none, none, none, none, none] S) = _
  unfold b32
  refine ret_ok ((ev_seq (ρ1 := rowP l t q (put t p q) p none none none none) (S1 := S) ?_).trans ?_)
  · unfold fPar
    rw [ev_ac f10 (ev_one f21)]
    rfl
  refine (skip_if (no_alike4 38 (S1 := S) (S2 := S) (d := .list [enc (put t p q), enc q]) ?_ rfl (two_fine gT gq (by omega) (by omega) (by omega)))).trans ?_
  · exact ev_L (ws := [.d (enc (put t p q)), .d (enc q)]) (ev_ac (ev_var rfl) (ev_one (c_at (ft := fVar 4) (fp := fVar 2) gT qe rfl rfl 35))) rfl
  refine (ev_seq (ρ1 := rowP l t q (put t p q) p c6 none none none) (S1 := S1) ?_).trans ?_
  · unfold fFor
    rw [hit]
    exact lp
  refine (ev_seq (ρ1 := rowP l t q (put t p q) p c6 (some (.d (.list ((below q p).map plD)))) none none) (S1 := S1) (ev_asg bel)).trans ?_
  refine (ev_seq (ρ1 := rowP l t q (put t p q) p c6 (some (.d (.list ((below q p).map plD)))) none (some (.d (.list ((kept t p).map plD))))) (S1 := S1) (ev_asg kpt)).trans ?_
  have tT : gTupleA [.d (.list (((places (put t p q)).map natI).map tupD))] S1 = some (tu ((places (put t p q)).map plD), S1) := by
    rw [List.map_map]
    rfl
  have fine : Fine (.tuple ((places (put t p q)).map plD)) := (Sm.tuple (k := 1) (b := 20000) (places_sm gT.w (by omega) (by omega))).fine (by decide) (by decide)
  refine ev_ret (fcall_at (ws := [tu ((places (put t p q)).map plD), tu ((places (put t p q)).map plD)]) (ev_ac (c_places gT (by omega) (by omega) 35 rfl) (ev_one (ev_L (ws := [.d (.list (((places (put t p q)).map natI).map tupD))]) (ev_one (ev_L (ws := [.d (.list ((kept t p).map plD ++ (below q p).map plD))]) (ev_one (ev_f2 rfl rfl cl)) srt)) tT))) (k_alike4 38 (by rw [asD]) (by rw [asD]) fine) rfl rfl)
end
end P4
end VI
set_option Elab.async false
set_option linter.all false
set_option maxRecDepth 100000
namespace VI
open PySem PySem.Spec PyProof.Rows L2
namespace P4

noncomputable abbrev inB (call : Calls) : FS := (fSeq (fAsg (fCall 2 (call 20) (fAc (fVar 3) (fAc (fVar 7) fA0))) (gtName 8)) (fSeq (fAsg (fL gTupleA (fAc (fCall 1 (call 16) (fAc (fVar 8) fA0)) fA0)) (gtName 9)) (fSeq (fIf (fNotT (fTru (fCall 2 (call 15) (fAc (fL gLst (fAc (fCall 2 (call 9) (fAc (fVar 3) (fAc (fVar 7) fA0))) (fAc (fCall 1 (call 5) (fAc (fVar 8) fA0)) (fAc (fCall 2 (call 6) (fAc (fVar 8) (fAc (fVar 9) fA0))) fA0)))) (fAc (fL gLst (fAc (fVar 8) (fAc (fVar 9) (fAc (fVar 8) fA0)))) fA0))))) (fRet (fC (.bool false))) fNext) (fSeq (fAsg (fIfE (fTest (f2 gNe (f2 gIx (fVar 8) (fC (.int 0))) (fC (.str "rec")))) (f1 gRevB (fVar 9)) (f2 gAdd (fSl gSlA (fVar 9) fNoPart (fPart (f1 gNeg (fC (.int 1))))) (fL gTup (fAc (fVar 4) fA0)))) (gtName 10)) (fSeq (fIf (fNotT (fTru (fCall 2 (call 15) (fAc (fCall 2 (call 6) (fAc (fVar 8) (fAc (fVar 10) fA0))) (fAc (fCall 2 (call 18) (fAc (fVar 8) (fAc (fL gList (fAc (fVar 10) fA0)) fA0))) fA0))))) (fRet (fC (.bool false))) fNext) (fSeq (fAsg (fIfE (fTru (fCall 2 (call 33) (fAc (fVar 3) (fAc (fVar 7) fA0)))) (fVar 4) (fL gTup (fAc (fC (.str "fn")) (fAc (fC (.str "x")) (fAc (fVar 4) fA0))))) (gtName 11)) (fIf (fNotT (fTru (fCall 4 (call 32) (fAc (fVar 1) (fAc (fVar 3) (fAc (fVar 7) (fAc (fVar 11) fA0))))))) (fRet (fC (.bool false))) fNext)))))))
noncomputable abbrev outB (call : Calls) : FS := (fSeq (fPar 3 4 (fAc (fCall 2 (call 31) (fAc (fVar 1) (fAc (fCall 2 (call 13) (fAc (fVar 1) (fAc (fL gLst (fAc (fC (.int 3)) (fAc (fC (.int 5)) (fAc (fC (.int 6)) fA0)))) fA0))) fA0))) (fAc (fCall 2 (call 31) (fAc (fVar 1) (fAc (fC (.int 2)) fA0))) fA0))) (fSeq (fPar 5 6 (fAc (fL gRepr (fAc (fL gLst (fAc (fVar 3) (fAc (fVar 4) fA0))) fA0)) (fAc (fCall 1 (call 19) (fAc (fVar 3) fA0)) fA0))) (fSeq (fIf (fNotT (fTru (fCall 2 (call 15) (fAc (fL gLst (fAc (fCall 1 (call 7) (fAc (fVar 3) fA0)) (fAc (fCall 1 (call 8) (fAc (fVar 3) fA0)) fA0))) (fAc (fL gLst (fAc (fL gTupleA (fAc (fVar 6) fA0)) (fAc (fL gLen (fAc (fVar 6) fA0)) fA0))) fA0))))) (fRet (fC (.bool false))) fNext) (fSeq (fFor (fItS (fSl gSlA (fCall 2 (call 14) (fAc (fVar 1) (fAc (fVar 6) fA0))) fNoPart (fPart (fC (.int 12))))) (gtName 7) (fSeq (fAsg (fCall 2 (call 20) (fAc (fVar 3) (fAc (fVar 7) fA0))) (gtName 8)) (fSeq (fAsg (fL gTupleA (fAc (fCall 1 (call 16) (fAc (fVar 8) fA0)) fA0)) (gtName 9)) (fSeq (fIf (fNotT (fTru (fCall 2 (call 15) (fAc (fL gLst (fAc (fCall 2 (call 9) (fAc (fVar 3) (fAc (fVar 7) fA0))) (fAc (fCall 1 (call 5) (fAc (fVar 8) fA0)) (fAc (fCall 2 (call 6) (fAc (fVar 8) (fAc (fVar 9) fA0))) fA0)))) (fAc (fL gLst (fAc (fVar 8) (fAc (fVar 9) (fAc (fVar 8) fA0)))) fA0))))) (fRet (fC (.bool false))) fNext) (fSeq (fAsg (fIfE (fTest (f2 gNe (f2 gIx (fVar 8) (fC (.int 0))) (fC (.str "rec")))) (f1 gRevB (fVar 9)) (f2 gAdd (fSl gSlA (fVar 9) fNoPart (fPart (f1 gNeg (fC (.int 1))))) (fL gTup (fAc (fVar 4) fA0)))) (gtName 10)) (fSeq (fIf (fNotT (fTru (fCall 2 (call 15) (fAc (fCall 2 (call 6) (fAc (fVar 8) (fAc (fVar 10) fA0))) (fAc (fCall 2 (call 18) (fAc (fVar 8) (fAc (fL gList (fAc (fVar 10) fA0)) fA0))) fA0))))) (fRet (fC (.bool false))) fNext) (fSeq (fAsg (fIfE (fTru (fCall 2 (call 33) (fAc (fVar 3) (fAc (fVar 7) fA0)))) (fVar 4) (fL gTup (fAc (fC (.str "fn")) (fAc (fC (.str "x")) (fAc (fVar 4) fA0))))) (gtName 11)) (fIf (fNotT (fTru (fCall 4 (call 32) (fAc (fVar 1) (fAc (fVar 3) (fAc (fVar 7) (fAc (fVar 11) fA0))))))) (fRet (fC (.bool false))) fNext)))))))) (fIf (fTest (f2 gNe (fL gRepr (fAc (fL gLst (fAc (fVar 3) (fAc (fVar 4) fA0))) fA0)) (fVar 5))) (fRet (fC (.bool false))) fNext)))))
theorem enc_ix0 (t : Tm) (S : Store) : gIx (.d (enc t)) (iw 0) S = some (sw (word t.hd), S) := by
  rw [enc_tm]
  cases t.hd <;> exact g_ix0
theorem ne_rec {h : Hd} {n : Nat} (hf : fits h n) (S : Store) : gNe (sw (word h)) (sw "rec") S = some (bt (!isRc h), S) := by
  cases h with
  | leaf w d => obtain ⟨_, rfl | rfl | rfl⟩ := hf <;> kernel_rfl
  | fl w => rcases hf with ⟨rfl, _⟩ | ⟨rfl, _⟩ | ⟨rfl, _⟩ | ⟨rfl | rfl | rfl, _⟩ <;> kernel_rfl
  | _ => kernel_rfl
/-- the parts the other way round, or with another rest -/
def turn (u o : Tm) : List Tm := if isRc u.hd then u.kids.dropLast ++ [o] else u.kids.reverse
theorem turn_len {u o : Tm} (w : Wf u) : (turn u o).length = u.kids.length := by
  unfold turn
  cases hr : isRc u.hd with
  | false => simp
  | true =>
    have : 1 ≤ u.kids.length := by
      have hf := (wf_iff.mp w).1.1
      cases hh : u.hd with
      | rc xs => rw [hh] at hf; have h2 : u.kids.length = xs.length + 1 := hf; omega
      | _ => rw [hh] at hr; cases hr
    rw [if_pos rfl, List.length_append, List.length_dropLast, List.length_singleton]
    omega
theorem turn_mem {u o k : Tm} (h : k ∈ turn u o) : k ∈ u.kids ∨ k = o := by
  unfold turn at h
  split at h
  · rcases List.mem_append.mp h with h | h
    · exact .inl ((List.dropLast_sublist _).subset h)
    · exact .inr (List.mem_singleton.mp h)
  · exact .inl (List.mem_reverse.mp h)
theorem turn_gd {u o : Tm} (a : Gd u) (b : Gd o) : Gd (.node u.hd (turn u o)) := by
  refine ⟨wf_iff.mpr ⟨?_, fun k m => ?_⟩, ok_iff.mpr ⟨(ok_iff.mp a.o).1, fun k m => ?_⟩⟩
  · show Fit u.hd (turn u o).length
    rw [turn_len a.w]
    exact (wf_iff.mp a.w).1
  · rcases turn_mem m with m | rfl
    · exact (wf_iff.mp a.w).2 k m
    · exact b.w
  · rcases turn_mem m with m | rfl
    · exact (ok_iff.mp a.o).2 k m
    · exact b.o
theorem sizes_rev : ∀ ks : List Tm, sizes ks.reverse = sizes ks
  | [] => rfl
  | k :: ks => by
    rw [List.reverse_cons, sizes_app, sizes_rev ks, sizes, sizes, sizes]
    omega
theorem sizes_drop : ∀ ks : List Tm, sizes ks.dropLast ≤ sizes ks
  | [] => Nat.le_refl _
  | [k] => Nat.zero_le _
  | k :: k2 :: ks => by
    have := sizes_drop (k2 :: ks)
    rw [List.dropLast_cons₂, sizes, sizes]
    omega
theorem turn_size {u o : Tm} : size (.node u.hd (turn u o)) ≤ size u + size o := by
  cases u with
  | node h ks =>
    rw [size, size]
    show 1 + sizes (turn (.node h ks) o) ≤ 1 + sizes ks + size o
    unfold turn
    split
    · rw [sizes_app]
      have := sizes_drop ks
      show 1 + (sizes ks.dropLast + (size o + 0)) ≤ _
      omega
    · show 1 + sizes ks.reverse ≤ _
      rw [sizes_rev]
      omega
theorem turn_ht {u o : Tm} : ht (.node u.hd (turn u o)) ≤ max (ht u) (1 + ht o) := by
  rw [ht]
  have : hts (turn u o) ≤ max (ht u - 1) (ht o) := hts_le fun k m => by
    rcases turn_mem m with m | rfl
    · have := ht_kid m
      omega
    · omega
  have h1 : 1 ≤ ht u := by cases u; rw [ht]; omega
  omega
theorem cut_last {α : Type} (r : List α) (x : α) : cutG (r ++ [x]) none (some (-1 : Int)) = r := by
  unfold cutG
  rw [HT.sIx_none, List.drop_zero, Nat.sub_zero]
  have : HT.sIx (r ++ [x]).length (r ++ [x]).length (some (-1 : Int)) = r.length := by
    rw [List.length_append, List.length_singleton]
    unfold HT.sIx
    simp
    omega
  rw [this, List.take_left]
theorem last_split {α : Type} {xs : List α} (h : xs ≠ []) : ∃ r x, xs = r ++ [x] := ⟨xs.dropLast, xs.getLast h, (List.dropLast_concat_getLast h).symm⟩
theorem kids_ht : ∀ u : Tm, hts u.kids + 1 ≤ ht u
  | .node h ks => by
    rw [ht]
    show hts ks + 1 ≤ 1 + hts ks
    omega
theorem kids_size : ∀ u : Tm, sizes u.kids + 1 ≤ size u
  | .node h ks => by
    rw [size]
    show sizes ks + 1 ≤ 1 + sizes ks
    omega
/-- is_plain -/
theorem k_plain {t u : Tm} {p : List Nat} (g : Gd t) (e : at_ t p = some u) (S : Store) : ∃ b : Bool, callN 40 33 [.d (enc t), plW p] S = .ok (bt b) S := by
  have ev0 : ∀ ρ : Rho, ρ[1]? = some (some (plW p)) → f2 gEq (fVar 1) (fL gTup fA0) ρ S = .ok (bt (decide (p = []))) S := fun ρ h => ev_f2 (ev_var h) (y := plW []) rfl (eq_pl p [])
  by_cases hp : p = []
  · refine ⟨true, ?_⟩
    show toR (b33 (callN 39) [some (.d (enc t)), some (plW p)] S) = _
    unfold b33
    refine ret_ok (ev_ret ?_)
    unfold fOrV
    rw [ev0 _ rfl, decide_eq_true hp]
    rfl
  · obtain ⟨r, i, rfl⟩ := last_split hp
    rw [at_append] at e
    cases q : at_ t r with
    | none => rw [q] at e; cases e
    | some v =>
      have gv := gd_at g q
      have es : fSl gSlA (fVar 1) fNoPart (fPart (f1 gNeg (fC (.int 1)))) [some (.d (enc t)), some (plW (r ++ [i]))] S = .ok (plW r) S := by
        have sl : gSlA (plW (r ++ [i])) none (some (-1)) S = some (plW r, S) := by
          show some (W.d (.tuple (cutG ((natI (r ++ [i])).map PyData.int) none (some (-1)))), S) = _
          rw [natI_append, List.map_append]
          show some (W.d (.tuple (cutG ((natI r).map PyData.int ++ [PyData.int (i : Int)]) none (some (-1)))), S) = _
          rw [cut_last]
          rfl
        have v1 : fVar 1 [some (.d (enc t)), some (plW (r ++ [i]))] S = .ok (plW (r ++ [i])) S := rfl
        have pn : fPart (f1 gNeg (fC (.int 1))) [some (.d (enc t)), some (plW (r ++ [i]))] S = .ok (some (-1)) S := rfl
        simp only [fSl, v1, R_ok, fNoPart, pn, sl, lift_some]
      have ca := c_lat (ρ := [some (.d (enc t)), some (plW (r ++ [i]))]) (S := S) (ft := fVar 0) (fp := fSl gSlA (fVar 1) fNoPart (fPart (f1 gNeg (fC (.int 1))))) g q rfl es 37
      have e2 : f2 gNe (f2 gIx (fCall 2 (callN 39 20) (fAc (fVar 0) (fAc (fSl gSlA (fVar 1) fNoPart (fPart (f1 gNeg (fC (.int 1))))) fA0))) (fC (.int 0))) (fC (.str "rec")) [some (.d (enc t)), some (plW (r ++ [i]))] S = .ok (bt (!isRc v.hd)) S := ev_f2 (ev_f2 ca rfl (enc_ix0 v S)) rfl (ne_rec (wf_iff.mp gv.w).1.1 S)
      cases hv : isRc v.hd with
      | false =>
        refine ⟨true, ?_⟩
        rw [hv] at e2
        show toR (b33 (callN 39) [some (.d (enc t)), some (plW (r ++ [i]))] S) = _
        unfold b33
        refine ret_ok (ev_ret ?_)
        unfold fOrV
        rw [ev0 _ rfl, decide_eq_false hp, R_ok]
        show (f2 gNe _ _ _ S).bind _ = _
        rw [e2]
        rfl
      | true =>
        rw [hv] at e2
        obtain ⟨xs, hx⟩ : ∃ xs, v.hd = .rc xs := by
          cases hh : v.hd with
          | rc xs => exact ⟨xs, rfl⟩
          | _ => rw [hh] at hv; cases hv
        refine ⟨decide ((i : Int) = ((pairs xs (v.kids.map enc)).length : Int)), ?_⟩
        have e3 : f2 gEq (f2 gIx (fVar 1) (f1 gNeg (fC (.int 1)))) (fL gLen (fAc (f2 gIx (fCall 2 (callN 39 20) (fAc (fVar 0) (fAc (fSl gSlA (fVar 1) fNoPart (fPart (f1 gNeg (fC (.int 1))))) fA0))) (fC (.int 1))) fA0)) [some (.d (enc t)), some (plW (r ++ [i]))] S = .ok (bt (decide ((i : Int) = ((pairs xs (v.kids.map enc)).length : Int)))) S := by
          refine ev_f2 (x := iw (i : Int)) (y := iw ((pairs xs (v.kids.map enc)).length : Int)) (ev_f2 (x := plW (r ++ [i])) (y := iw (-1)) rfl rfl ?_) (ev_L (ws := [tu (pairs xs (v.kids.map enc))]) (ev_one (ev_f2 ca rfl ?_)) rfl) ev_eqI
          · refine g_last (r := (natI r).map PyData.int) ?_
            show some ((natI (r ++ [i])).map PyData.int) = _
            rw [natI_append, List.map_append]
            rfl
          · rw [enc_tm, hx]
            rfl
        show toR (b33 (callN 39) [some (.d (enc t)), some (plW (r ++ [i]))] S) = _
        unfold b33
        refine ret_ok (ev_ret ?_)
        unfold fOrV
        rw [ev0 _ rfl, decide_eq_false hp, R_ok]
        show (f2 gNe _ _ _ S).bind _ = _
        rw [e2, R_ok]
        exact e3
section
variable {l : Nat} {t o : Tm}
abbrev rowL (sc : Option W) (l : Nat) (t o : Tm) (K : Str) (s2 s7 s8 s9 s10 s11 : Option W) : Rho := [sc, some (.loc l), s2, some (.d (enc t)), some (.d (enc o)), some (.d (.str K)), some (.d (.list ((places t).map plD))), s7, s8, s9, s10, s11]
/-- what is put there -/
def putT (o : Tm) (b : Bool) : Tm := if b then o else .node (.fn (.str "x")) [o]
theorem putT_gd {o : Tm} (g : Gd o) (b : Bool) : Gd (putT o b) := by
  cases b with
  | true => exact g
  | false => exact ⟨wf_iff.mpr ⟨⟨rfl, by show 1 ≤ 4; decide⟩, fun k m => by rw [List.mem_singleton.mp m]; exact g.w⟩, ok_iff.mpr ⟨sm0_str (by decide +kernel), fun k m => by rw [List.mem_singleton.mp m]; exact g.o⟩⟩
theorem in_step {sc s2 s8 s9 s10 s11 : Option W} {K : Str} {p : List Nat} {u : Tm} {N : Nat} {S : Store} (gt : Gd t) (go : Gd o) (ht_ : ht t ≤ 13) (ho_ : ht o ≤ 5) (hs : size t ≤ 150) (hso : size o ≤ 150) (e : at_ t p = some u) (hb : BG S l N) (hN : N + 200 < 2 ^ 58) :
    ∃ b8 b9 b10 b11 S', inB (callN 40) (rowL sc l t o K s2 (some (plW p)) s8 s9 s10 s11) S = .next (rowL sc l t o K s2 (some (plW p)) b8 b9 b10 b11) S' ∧ BG S' l (N + 200) ∧ K1 l S S' := by
  have gu := gd_at gt e
  have hu := at_ht p e
  have hus := at_size p e
  have wf := (wf_iff.mp gu.w).1
  obtain ⟨b, hpl⟩ := k_plain gt e S
  have gq := putT_gd go b
  have hq : ht (putT o b) ≤ 6 := by
    cases b with
    | true => show ht o ≤ 6; omega
    | false => show 1 + max (ht o) 0 ≤ 6; omega
  have hqs : size (putT o b) ≤ 151 := by
    cases b with
    | true => show size o ≤ 151; omega
    | false => show 1 + (size o + 0) ≤ 151; omega
  obtain ⟨S', ei, bi, ki⟩ := k_ipr (l := l) (N := N) (S := S) gt gq ht_ hq hs hqs e hb hN
  have tg := turn_gd gu go
  have tl := turn_len (o := o) gu.w
  have th := turn_ht (u := u) (o := o)
  have tsz := turn_size (u := u) (o := o)
  refine ⟨some (.d (enc u)), some (tu (u.kids.map enc)), some (tu ((turn u o).map enc)), some (.d (enc (putT o b))), S', ?_, bi, ki⟩
  -- part
  refine (ev_seq (ρ1 := rowL sc l t o K s2 (some (plW p)) (some (.d (enc u))) s9 s10 s11) (S1 := S) (ev_asg (c_lat gt e rfl rfl 38))).trans ?_
  -- parts
  refine (ev_seq (ρ1 := rowL sc l t o K s2 (some (plW p)) (some (.d (enc u))) (some (tu (u.kids.map enc))) s10 s11) (S1 := S) (ev_asg (ev_L (ws := [.d (.list (u.kids.map enc))]) (ev_one (fcall_new (ws := [.d (enc u)]) (ev_one rfl) (t_lparts 39 gu.w S) rfl)) rfl))).trans ?_
  -- the first test
  have kw := k_wparts 37 (fit_kids gu.w) (tup_kids u) (few_kids gu.w) (fit_kids gu.w) rfl S (q := .tuple (u.kids.map enc)) (.inr rfl)
  rw [← enc_tm] at kw
  have kf : Sms 62 200000 (u.kids.map enc) := by
    have hk := encs_sm u.kids (by have := gu.w; cases u; exact this.2) (by have := gu.o; cases u; exact this.2)
    rw [encs_map] at hk
    have h1 := kids_ht u
    have h2 := kids_size u
    have := wf.2
    exact hk.mono (by omega) (by omega)
  have ue := enc_sm u gu.w gu.o
  have ue2 : Sm 62 196500 (enc u) := ue.mono (by omega) (by omega)
  have fine3 : Fine (.list [enc u, .tuple (u.kids.map enc), enc u]) :=
    (Sm.list (k := 63) (b := 600000) ((Sms.cons (ue2.mono (show 62 ≤ 63 by decide) (Nat.le_refl _)) (Sms.cons (Sm.tuple kf) (Sms.one (ue2.mono (show 62 ≤ 63 by decide) (Nat.le_refl _))))).mono (Nat.le_refl _) (by omega))).fine (by decide) (by decide)
  refine (skip_if (no_alike4 39 (S1 := S) (S2 := S) (d := .list [enc u, .tuple (u.kids.map enc), enc u]) ?_ rfl fine3)).trans ?_
  · exact ev_L (ws := [.d (enc u), tu (u.kids.map enc), .d (enc u)]) (ev_ac (c_at gt e rfl rfl 36) (ev_ac (fcall_at (ws := [.d (enc u)]) (ev_one rfl) (t_parts 37 gu.w S) rfl rfl) (ev_one (fcall_at (ws := [.d (enc u), tu (u.kids.map enc)]) (ev_ac rfl (ev_one rfl)) kw rfl rfl)))) rfl
  -- turned
  refine (ev_seq (ρ1 := rowL sc l t o K s2 (some (plW p)) (some (.d (enc u))) (some (tu (u.kids.map enc))) (some (tu ((turn u o).map enc))) s11) (S1 := S) (ev_asg ?_)).trans ?_
  · have tt : fTest (f2 gNe (f2 gIx (fVar 8) (fC (.int 0))) (fC (.str "rec"))) (rowL sc l t o K s2 (some (plW p)) (some (.d (enc u))) (some (tu (u.kids.map enc))) s10 s11) S = .ok (!isRc u.hd) S := ev_test (ev_f2 (ev_f2 rfl rfl (enc_ix0 u S)) rfl (ne_rec wf.1 S))
    unfold fIfE
    rw [tt, R_ok]
    cases hr : isRc u.hd with
    | false =>
      rw [if_pos (by decide)]
      have et : turn u o = u.kids.reverse := by unfold turn; rw [hr]; rfl
      refine ev_f1 (x := tu (u.kids.map enc)) rfl ?_
      rw [et, List.map_reverse]
      show some (mkT ((u.kids.map enc).map W.d).reverse, S) = _
      rw [← List.map_reverse]
      unfold mkT
      rw [datas_map]
    | true =>
      rw [if_neg (by decide)]
      have et : turn u o = u.kids.dropLast ++ [o] := by unfold turn; rw [hr]; rfl
      have ne : u.kids ≠ [] := fun z => by
        have h2 := tl
        rw [et, z] at h2
        simp at h2
      obtain ⟨r, x, hrx⟩ := last_split ne
      have sl : gSlA (tu (u.kids.map enc)) none (some (-1)) S = some (tu (r.map enc), S) := by
        show some (W.d (.tuple (cutG (u.kids.map enc) none (some (-1)))), S) = _
        rw [hrx, List.map_append]
        show some (W.d (.tuple (cutG (r.map enc ++ [enc x]) none (some (-1)))), S) = _
        rw [cut_last]
      have es : fSl gSlA (fVar 9) fNoPart (fPart (f1 gNeg (fC (.int 1)))) (rowL sc l t o K s2 (some (plW p)) (some (.d (enc u))) (some (tu (u.kids.map enc))) s10 s11) S = .ok (tu (r.map enc)) S := by
        have v1 : fVar 9 (rowL sc l t o K s2 (some (plW p)) (some (.d (enc u))) (some (tu (u.kids.map enc))) s10 s11) S = .ok (tu (u.kids.map enc)) S := rfl
        have pn : fPart (f1 gNeg (fC (.int 1))) (rowL sc l t o K s2 (some (plW p)) (some (.d (enc u))) (some (tu (u.kids.map enc))) s10 s11) S = .ok (some (-1)) S := rfl
        simp only [fSl, v1, R_ok, fNoPart, pn, sl, lift_some]
      have ed : (turn u o).map enc = r.map enc ++ [enc o] := by
        rw [et, hrx, List.dropLast_concat, List.map_append]
        rfl
      rw [ed]
      have rl : r.length ≤ 4 := by
        have := wf.2
        rw [hrx, List.length_append] at this
        omega
      exact ev_f2 (x := tu (r.map enc)) (y := tu [enc o]) es rfl (g_catT (by rw [List.length_map, List.length_singleton]; omega))
  -- the second test
  have fl2 : fits u.hd ((turn u o).map enc).length := by rw [List.length_map, tl]; exact wf.1
  have el2 : (u.kids.map enc).length = ((turn u o).map enc).length := by rw [List.length_map, List.length_map, tl]
  have kw2 := k_wparts 37 (fit_kids gu.w) (tup_kids u) (few_kids gu.w) fl2 el2 S (q := .tuple ((turn u o).map enc)) (.inr rfl)
  have kl2 := k_lwith 39 (fit_kids gu.w) (tup_kids u) (few_kids gu.w) fl2 el2 (PL.list S ((turn u o).map enc))
  rw [← enc_tm, ← enc_node] at kw2 kl2
  refine (skip_if (no_alike4 39 (S1 := S) (S2 := S) (d := enc (.node u.hd (turn u o))) (fcall_at (ws := [.d (enc u), tu ((turn u o).map enc)]) (ev_ac rfl (ev_one rfl)) kw2 rfl rfl) (fcall_at (ws := [.d (enc u), .d (.list ((turn u o).map enc))]) (ev_ac rfl (ev_one (ev_L (ws := [tu ((turn u o).map enc)]) (ev_one rfl) rfl))) kl2 rfl rfl) (one_fine tg (by omega) (by omega)))).trans ?_
  -- put
  refine (ev_seq (ρ1 := rowL sc l t o K s2 (some (plW p)) (some (.d (enc u))) (some (tu (u.kids.map enc))) (some (tu ((turn u o).map enc))) (some (.d (enc (putT o b))))) (S1 := S) (ev_asg ?_)).trans ?_
  · have tt : fTru (fCall 2 (callN 40 33) (fAc (fVar 3) (fAc (fVar 7) fA0))) (rowL sc l t o K s2 (some (plW p)) (some (.d (enc u))) (some (tu (u.kids.map enc))) (some (tu ((turn u o).map enc))) s11) S = .ok b S := by
      have f33 : fCall 2 (callN 40 33) (fAc (fVar 3) (fAc (fVar 7) fA0)) (rowL sc l t o K s2 (some (plW p)) (some (.d (enc u))) (some (tu (u.kids.map enc))) (some (tu ((turn u o).map enc))) s11) S = .ok (bt b) S := fcall_at (ws := [.d (enc t), plW p]) (ev_ac rfl (ev_one rfl)) hpl rfl rfl
      unfold fTru
      rw [f33]
      rfl
    unfold fIfE
    rw [tt, R_ok]
    cases b with
    | true => rw [if_pos rfl]; rfl
    | false => rw [if_neg (by decide)]; exact ev_L (ws := [sw "fn", sw "x", .d (enc o)]) (ev_ac rfl (ev_ac rfl (ev_one rfl))) rfl
  -- the third test
  have f32 : fCall 4 (callN 40 32) (fAc (fVar 1) (fAc (fVar 3) (fAc (fVar 7) (fAc (fVar 11) fA0)))) (rowL sc l t o K s2 (some (plW p)) (some (.d (enc u))) (some (tu (u.kids.map enc))) (some (tu ((turn u o).map enc))) (some (.d (enc (putT o b))))) S = .ok (bt true) S' := fcall_at (ws := [.loc l, .d (enc t), plW p, .d (enc (putT o b))]) (ev_ac rfl (ev_ac rfl (ev_ac rfl (ev_one rfl)))) ei ki.1 rfl
  refine (ev_no (S1 := S') ?_).trans rfl
  unfold fNotT fTru
  rw [f32]
  rfl
end
end P4
end VI
set_option Elab.async false
set_option linter.all false
set_option maxRecDepth 100000
namespace VI
open PySem PySem.Spec PyProof.Rows L2
namespace P4

theorem g_ne_self {z : Str} {S : Store} : gNe (.d (.str z)) (.d (.str z)) S = some (bt false, S) := by
  show some (bt (!(z == z)), S) = _
  rw [beq_self_eq_true]
  rfl
section
variable {l : Nat} {t o : Tm}
theorem in_loop {ok : Store → Prop} {sc s2 : Option W} {K : Str} (hok : ∀ S, ok S) (gt : Gd t) (go : Gd o) (ht_ : ht t ≤ 13) (ho_ : ht o ≤ 5) (hs : size t ≤ 150) (hso : size o ≤ 150) : ∀ (ds : List PyData) (N : Nat) (S : Store) (s7 s8 s9 s10 s11 : Option W), (∀ d ∈ ds, ∃ p ∈ places t, d = plD p) → BG S l N → N + ds.length * 200 < 2 ^ 58 →
    ∃ b7 b8 b9 b10 b11 S', forL ok (gtName 7) (inB (callN 40)) (ds.map W.d) (rowL sc l t o K s2 s7 s8 s9 s10 s11) S = .next (rowL sc l t o K s2 b7 b8 b9 b10 b11) S' ∧ BG S' l (N + ds.length * 200) ∧ K1 l S S'
  | [], N, S, s7, s8, s9, s10, s11, _, hb, _ => ⟨s7, s8, s9, s10, s11, S, by simp only [List.map_nil, forL, if_pos (hok S)], by rw [List.length_nil]; exact hb.mono (by omega), rfl, fun _ _ => rfl⟩
  | d :: ds, N, S, s7, s8, s9, s10, s11, h, hb, hN => by
    obtain ⟨p, hp, rfl⟩ := h d (by simp)
    obtain ⟨u, e⟩ := (mem_at p).mp hp
    rw [List.length_cons] at hN ⊢
    obtain ⟨b8, b9, b10, b11, S1, e1, hb1, k1⟩ := in_step (sc := sc) (s2 := s2) (s8 := s8) (s9 := s9) (s10 := s10) (s11 := s11) (K := K) (S := S) gt go ht_ ho_ hs hso e hb (by omega)
    obtain ⟨c7, c8, c9, c10, c11, S2, e2, hb2, k2⟩ := in_loop (sc := sc) (s2 := s2) (K := K) hok gt go ht_ ho_ hs hso ds (N + 200) S1 (some (plW p)) b8 b9 b10 b11 (fun d' m => h d' (by simp [m])) hb1 (by omega)
    refine ⟨c7, c8, c9, c10, c11, S2, ?_, hb2.mono (by omega), k2.1.trans k1.1, fun i hi => (k2.2 i hi).trans (k1.2 i hi)⟩
    rw [List.map_cons, forL, if_pos (hok S)]
    show (match inB _ (rowL sc l t o K s2 (some (plW p)) s8 s9 s10 s11) S with | .next ρ2 S2 => forL ok _ _ _ ρ2 S2 | .cnt ρ2 S2 => _ | .brk ρ2 S2 => _ | r => r) = _
    rw [e1]
    exact e2
end
def IT (j : Nat) (ρ : Rho) (S : Store) : Prop := (∃ (a0 a2 a3 a4 a5 a6 a7 a8 a9 a10 a11 : Option W), ρ = [a0, some (.loc 0), a2, a3, a4, a5, a6, a7, a8, a9, a10, a11]) ∧ BG S 0 (120000000 * j)
set_option maxHeartbeats 4000000 in
theorem out_step : ∀ j w ρ S, j < 4 → IT j ρ S → ∃ ρ' S', outB (callN 40) (ρ.set 2 (some w)) S = .next ρ' S' ∧ IT (j + 1) ρ' S' := by
  rintro j w ρ S hj ⟨⟨a0, a2, a3, a4, a5, a6, a7, a8, a9, a10, a11, rfl⟩, hb⟩
  obtain ⟨x, S1, hx, e1, b1, k1⟩ := (W1 0).sm 38 (S := S) (N := 120000000 * j) (ds := [.int 3, .int 5, .int 6]) hb (by omega) (by decide)
  obtain ⟨d, hd1, hd6, rfl⟩ : ∃ d : Nat, 1 ≤ d ∧ d ≤ 6 ∧ x = .int (d : Int) := by
    simp only [List.mem_cons, List.not_mem_nil, or_false] at hx
    rcases hx with h | h | h
    · exact ⟨3, by decide, by decide, h⟩
    · exact ⟨5, by decide, by decide, h⟩
    · exact ⟨6, by decide, by decide, h⟩
  have ct6 : ct 6 = 12941290 := by decide
  obtain ⟨_, S2, e2, ⟨t, rfl, gt, tht, tsz⟩, b2, k2⟩ := d_some (l := 0) hd1 hd6 S1 (120000000 * j + 1) b1 (by omega)
  obtain ⟨_, S3, e3, ⟨o, rfl, go, oht, osz⟩, b3, k3⟩ := d_some (l := 0) (d := 2) (by decide) (by decide) S2 (120000000 * j + 1 + 4 * ct 6) b2 (by omega)
  have ht13 : ht t ≤ 13 := by omega
  have f2_ : Fine (.list [enc t, enc o]) := two_fine gt go (by omega) (by omega) (by omega)
  have rp : ∀ S : Store, gRepr [.d (.list [enc t, enc o])] S = some (.d (.str (PyData.shown (.list [enc t, enc o]))), S) := fun S => gRepr_fine (by rw [asD]) f2_
  obtain ⟨K, eK⟩ : ∃ K : Str, K = PyData.shown (.list [enc t, enc o]) := ⟨_, rfl⟩
  rw [← eK] at rp
  have er : ∀ (b5 b7 b8 b9 b10 b11 : Option W) (b6 : Option W) (S : Store), fL gRepr (fAc (fL gLst (fAc (fVar 3) (fAc (fVar 4) fA0))) fA0) [a0, some (.loc 0), some w, some (.d (enc t)), some (.d (enc o)), b5, b6, b7, b8, b9, b10, b11] S = .ok (.d (.str K)) S := fun b5 b7 b8 b9 b10 b11 b6 S => ev_L (ws := [.d (.list [enc t, enc o])]) (ev_one (ev_L (ws := [.d (enc t), .d (enc o)]) (ev_ac rfl (ev_one rfl)) rfl)) (rp S)
  obtain ⟨ms, S4, pm, e4, z4, b4, k4⟩ := mixed_bg 38 (n2 := 0) (S := S3) (l := 0) (N := 120000000 * j + 1 + 4 * ct 6 + 4 * ct 6) (ds := (places t).map plD) (fa := fAc (fVar 1) (fAc (fVar 6) fA0)) (ρ := rowL a0 0 t o K (some w) a7 a8 a9 a10 a11) b3 (by rw [List.length_map, places_len]; omega) (by rw [List.length_map, places_len]; omega) (ev_ac rfl (ev_one rfl))
  rw [List.length_map, places_len] at b4
  have hit : ∃ ok, (∀ S, ok S) ∧ fItS (fSl gSlA (fCall 2 (callN 40 14) (fAc (fVar 1) (fAc (fVar 6) fA0))) fNoPart (fPart (fC (.int 12)))) (rowL a0 0 t o K (some w) a7 a8 a9 a10 a11) S3 = .ok ⟨(ms.take 12).map W.d, ok⟩ S4 := by
    have sl : gSlA (.d (.list ms)) none (some 12) S4 = some (.d (.list (ms.take 12)), S4) := by
      show some (W.d (.list (cutG ms none (some ((12 : Nat) : Int)))), S4) = _
      rw [cut_to]
    have es : fSl gSlA (fCall 2 (callN 40 14) (fAc (fVar 1) (fAc (fVar 6) fA0))) fNoPart (fPart (fC (.int 12))) (rowL a0 0 t o K (some w) a7 a8 a9 a10 a11) S3 = .ok (.d (.list (ms.take 12))) S4 := by
      unfold fSl
      rw [e4, R_ok]
      show (R.ok none S4 : R (Option Int)).bind _ = _
      rw [R_ok]
      show (R.ok (some 12) S4 : R (Option Int)).bind _ = _
      rw [R_ok, sl]
      rfl
    refine ⟨fun _ => True, fun _ => trivial, ?_⟩
    unfold fItS
    rw [es]
    rfl
  obtain ⟨ok, hok, hit⟩ := hit
  have t12 : (ms.take 12).length ≤ 12 := List.length_take_le 12 ms
  obtain ⟨b7, b8, b9, b10, b11, S5, e5, b5, k5⟩ := in_loop (l := 0) (sc := a0) (s2 := some w) (K := K) hok gt go ht13 (by omega) tsz osz (ms.take 12) (120000000 * j + 1 + 4 * ct 6 + 4 * ct 6 + size t) S4 a7 a8 a9 a10 a11
    (fun d md => by
      obtain ⟨p, hp, rfl⟩ := List.mem_map.mp (pm.mem_iff.mp (List.mem_of_mem_take md))
      exact ⟨p, hp, rfl⟩) b4 (by omega)
  refine ⟨rowL a0 0 t o K (some w) b7 b8 b9 b10 b11, S5, ?_, ⟨a0, _, _, _, _, _, _, _, _, _, _, rfl⟩, b5.mono (by omega)⟩
  show outB (callN 40) [a0, some (.loc 0), some w, a3, a4, a5, a6, a7, a8, a9, a10, a11] S = _
  -- term, other
  refine (ev_seq (ρ1 := [a0, some (.loc 0), some w, some (.d (enc t)), some (.d (enc o)), a5, a6, a7, a8, a9, a10, a11]) (S1 := S3) ?_).trans ?_
  · have f13 : fCall 2 (callN 40 13) (fAc (fVar 1) (fAc (fL gLst (fAc (fC (.int 3)) (fAc (fC (.int 5)) (fAc (fC (.int 6)) fA0)))) fA0)) [a0, some (.loc 0), some w, a3, a4, a5, a6, a7, a8, a9, a10, a11] S = .ok (iw (d : Int)) S1 := fcall_at (ws := [.loc 0, .d (.list [.int 3, .int 5, .int 6])]) (ev_ac rfl (ev_one (ev_L (ws := [iw 3, iw 5, iw 6]) (ev_ac rfl (ev_ac rfl (ev_one rfl))) rfl))) e1 k1.1 rfl
    have fa : fCall 2 (callN 40 31) (fAc (fVar 1) (fAc (fCall 2 (callN 40 13) (fAc (fVar 1) (fAc (fL gLst (fAc (fC (.int 3)) (fAc (fC (.int 5)) (fAc (fC (.int 6)) fA0)))) fA0))) fA0)) [a0, some (.loc 0), some w, a3, a4, a5, a6, a7, a8, a9, a10, a11] S = .ok (.d (enc t)) S2 := fcall_at (ws := [.loc 0, iw (d : Int)]) (ev_ac rfl (ev_one f13)) e2 k2.1 rfl
    have fb : fCall 2 (callN 40 31) (fAc (fVar 1) (fAc (fC (.int 2)) fA0)) [a0, some (.loc 0), some w, a3, a4, a5, a6, a7, a8, a9, a10, a11] S2 = .ok (.d (enc o)) S3 := fcall_at (ws := [.loc 0, iw 2]) (ev_ac rfl (ev_one rfl)) e3 k3.1 rfl
    unfold fPar
    rw [ev_ac fa (ev_one fb)]
    rfl
  -- kept, places
  have lp := c_lplaces (ρ := [a0, some (.loc 0), some w, some (.d (enc t)), some (.d (enc o)), a5, a6, a7, a8, a9, a10, a11]) (S := S3) (ft := fVar 3) gt (n := 18) (by omega) (by decide) (by omega) 21 rfl
  refine (ev_seq (ρ1 := rowL a0 0 t o K (some w) a7 a8 a9 a10 a11) (S1 := S3) ?_).trans ?_
  · unfold fPar
    rw [ev_ac (er _ _ _ _ _ _ _ S3) (ev_one lp)]
    rfl
  -- the first test
  have ln : fL gLen (fAc (fVar 6) fA0) (rowL a0 0 t o K (some w) a7 a8 a9 a10 a11) S3 = .ok (iw (size t : Int)) S3 := ev_L (ws := [.d (.list ((places t).map plD))]) (ev_one rfl) (by
    show some (iw (((places t).map plD).length : Int), S3) = _
    rw [List.length_map, places_len])
  have fine3 : Fine (.list [.tuple ((places t).map plD), .int (size t : Int)]) :=
    (Sm.list (k := 2) (b := 20002) ((Sms.cons (Sm.tuple (places_sm gt.w (by omega) (by omega))) (Sms.one (Sm.int (by omega) (b := 0)))).mono (Nat.le_refl _) (by omega))).fine (by decide) (by decide)
  refine (ev_seq (ρ1 := rowL a0 0 t o K (some w) a7 a8 a9 a10 a11) (S1 := S3) ((ev_no (no_alike4 39 (S1 := S3) (S2 := S3) (d := .list [.tuple ((places t).map plD), .int (size t : Int)]) ?_ ?_ fine3)).trans rfl)).trans ?_
  · exact ev_L (ws := [tu ((places t).map plD), iw (size t : Int)]) (ev_ac (c_places gt (by omega) (by omega) 36 rfl) (ev_one (fcall_at (ws := [.d (enc t)]) (ev_one rfl) (k_size 36 gt.w (by omega) S3) rfl rfl))) rfl
  · exact ev_L (ws := [tu ((places t).map plD), iw (size t : Int)]) (ev_ac (ev_L (ws := [.d (.list ((places t).map plD))]) (ev_one rfl) rfl) (ev_one ln)) rfl
  -- the places
  refine (ev_seq (ρ1 := rowL a0 0 t o K (some w) b7 b8 b9 b10 b11) (S1 := S5) ?_).trans ?_
  · unfold fFor
    rw [hit]
    exact e5
  -- kept
  have tt : fTest (f2 gNe (fL gRepr (fAc (fL gLst (fAc (fVar 3) (fAc (fVar 4) fA0))) fA0)) (fVar 5)) (rowL a0 0 t o K (some w) b7 b8 b9 b10 b11) S5 = .ok false S5 := ev_test (ev_f2 (er _ _ _ _ _ _ _ S5) rfl g_ne_self)
  exact (ev_no tt).trans rfl
theorem good04 : ∀ ns : List Int, ns.length ≤ 63 → (∀ z ∈ ns, Builtin.Int.intBits z ≤ 1048576) → ∃ S', callN (40 + 1) 34 [scriptW ns] [] = .ok (.d (.bool true)) S' := by
  intro ns h _
  obtain ⟨bag, e0, hf, h2⟩ := bag_run h
  have hb0 : BG [bag.so] 0 0 := ⟨bag, rfl, hf, by omega⟩
  obtain ⟨ρ2, S2, e2, _⟩ := for_invB (m := 4) out_step (rangeW 0 4) 0 [some (scriptW ns), some (.loc 0), none, none, none, none, none, none, none, none, none, none] [bag.so] (by rw [rangeW_len]; decide) ⟨⟨_, _, _, _, _, _, _, _, _, _, _, rfl⟩, hb0.mono (by omega)⟩
  refine ⟨S2, ?_⟩
  show toR (b34 (callN 40) [some (scriptW ns), none, none, none, none, none, none, none, none, none, none, none] []) = _
  unfold b34
  refine ret_ok ((ev_seq (ρ1 := [some (scriptW ns), some (.loc 0), none, none, none, none, none, none, none, none, none, none]) (S1 := [bag.so]) (ev_asg ?_)).trans ?_)
  · show (if ([scriptW ns] : List W).length = 1 then callN (39 + 1) 11 [scriptW ns] [] else R.bad) = _
    rw [if_pos (show ([scriptW ns] : List W).length = 1 from rfl)]
    exact e0
  refine (ev_seq (ρ1 := ρ2) (S1 := S2) ?_).trans ?_
  · have it2 : fRng rng1 (fAc (fC (.int 4)) fA0) [some (scriptW ns), some (.loc 0), none, none, none, none, none, none, none, none, none, none] [bag.so] = .ok ⟨rangeW 0 4, fun _ => True⟩ [bag.so] := rng_nat 4 (by decide)
    unfold fFor
    rw [it2]
    exact e2
  exact ev_ret rfl
end P4
end VI
set_option Elab.async false
set_option linter.all false
set_option maxRecDepth 100000
/-! The top's run cut where a look-up hangs on hashes: x comes to a within n steps, whatever stands behind it. -/
namespace SH
open PySem PySem.W PySem.Calls PyProof.Rows HandSHeadRun

section
variable (tb : String → Option Builtin) (p : Program) (w : World) (n0 : Nat) (ann : Option Value) (B : List Frame) (c : Code)
/-- x comes to a within n steps: live above it L, behind it anything -/
def Gets {α : Type} (L : List Value) (n : Nat) (x : Sem α) (s : Shared) (pos : Pos) (a : α) (s' : Shared) (pos' : Pos) : Prop :=
  ∀ (K : α → Sem Fin) (H : Value → Sem Fin) (N : Nat) (r : Shared), topRun tb p w n0 ann N s' ⟨K a, c, pos', B⟩ = some r → topRun tb p w n0 ann (n + N) s ⟨x.wrap K H id (L ++ ·), c, pos, B⟩ = some r
end
section
variable {tb : String → Option Builtin} {p : Program} {w : World} {n0 : Nat} {ann : Option Value} {B : List Frame} {c : Code} {α β : Type} {L : List Value} {s s1 s2 : Shared} {q q1 q2 : Pos}
theorem Gets.mono {n m : Nat} {x : Sem α} {a : α} (h : Gets tb p w n0 ann B c L n x s q a s1 q1) (le : n ≤ m) : Gets tb p w n0 ann B c L m x s q a s1 q1 := fun K H N r k => by
  have := topRun_mono (m - n) _ _ _ _ (h K H N r k)
  rw [show n + N + (m - n) = m + N by omega] at this
  exact this
theorem Gets.pure {n : Nat} {a : α} : Gets tb p w n0 ann B c L n (Pure.pure a : Sem α) s q a s q := Gets.mono (n := 0) (fun K H N r k => by
  show topRun tb p w n0 ann (0 + N) s ⟨K a, c, q, B⟩ = some r
  rw [Nat.zero_add]
  exact k) (Nat.zero_le _)
theorem Gets.bind {n m : Nat} {x : Sem α} {f : α → Sem β} {a : α} {b : β} (h : Gets tb p w n0 ann B c L n x s q a s1 q1) (k : Gets tb p w n0 ann B c L m (f a) s1 q1 b s2 q2) : Gets tb p w n0 ann B c L (n + m) (x >>= f) s q b s2 q2 := fun K H N r e => by
  have z := h (fun a => (f a).wrap K H id (L ++ ·)) H (m + N) r (k K H N r e)
  rw [← Nat.add_assoc] at z
  rw [Sem.bind_eq_wrap', Sem.wrap_wrap]
  exact z
theorem Gets.keep {n : Nat} {x : Sem α} {a : α} {V : List Value} (h : Gets tb p w n0 ann B c (L ++ V) n x s q a s1 q1) : Gets tb p w n0 ann B c L n (x.keep V) s q a s1 q1 := fun K H N r e => by
  have z := h K H N r e
  rw [Sem.keep_eq_wrap, Sem.wrap_wrap]
  have e2 : (fun l : List Value => L ++ (V ++ l)) = (L ++ V ++ ·) := funext fun l => (List.append_assoc L V l).symm
  rw [e2]
  exact z
theorem Gets.holding {n : Nat} {x : Sem α} {a : α} {V : List Value} (h : Gets tb p w n0 ann B c (L ++ V.filter Value.isRef) n x s q a s1 q1) : Gets tb p w n0 ann B c L n (PySem.holding V x) s q a s1 q1 := by
  rw [holding_eq_keep]
  exact h.keep
/-- from a run by itself -/
theorem Gets.of_seg {n : Nat} {x : Sem α} {a : α} {res : α → Flow} (hB : splitAtGen B = none) (inj : ∀ a', res a' = res a → a' = a)
    (h : segRun tb p w n0 ann B.length n s ⟨x.wrap (fun a => .pure (.done (res a))) deadEnd id (L ++ ·), c, q, B⟩ = some (res a, s1, c, q1)) : Gets tb p w n0 ann B c L n x s q a s1 q1 := fun K H N r k => by
  obtain ⟨a', e, hN⟩ := seg_top (res := res) (K' := K) (H' := H) (B := B) hB n s ⟨x.wrap (fun a => .pure (.done (res a))) deadEnd id (L ++ ·), c, q, B⟩ ⟨x.wrap K H id (L ++ ·), c, q, B⟩ _ _ _ _ ⟨rfl, rfl, .inl ⟨rfl, rfl, _, rfl, rfl⟩⟩ h
  rw [inj a' e] at hN
  exact hN N r k
/-- one step that changes nothing -/
theorem Gets.step1 {x y : Sem α} {a : α} {n : Nat} {q' : Pos} (t : ∀ K H, through ⟨x.wrap K H id (L ++ ·), c, q, B⟩ = false) (o : ∀ K H, stepOk n0 ann ⟨x.wrap K H id (L ++ ·), c, q, B⟩ = true)
    (g : ∀ K H, step (denote tb) p w s ⟨x.wrap K H id (L ++ ·), c, q, B⟩ = .go s ⟨y.wrap K H id (L ++ ·), c, q', B⟩) (h : Gets tb p w n0 ann B c L n y s q' a s1 q1) : Gets tb p w n0 ann B c L (n + 1) x s q a s1 q1 := fun K H N r k => by
  rw [show n + 1 + N = n + N + 1 by omega]
  unfold topRun
  rw [t K H, o K H, g K H]
  exact h K H N r k
theorem Gets.rule {tag : String} : Gets tb p w n0 ann B c L 1 (PySem.rule tag) s q () s q :=
  Gets.step1 (y := (Pure.pure () : Sem Unit)) (n := 0) (fun _ _ => by simp only [PySem.rule, Sem.wrap, through, Bool.and_false]) (fun _ _ => rfl) (fun _ _ => rfl) Gets.pure
end

/-! ### runs off the tree -/
section
variable (st : SharedT → Thread → Option (SharedT × Thread)) (n0 : Nat) (ann : Option Value) (b : Nat)
/-- a piece by itself, off the tree -/
def segT : Nat → SharedT → Thread → Option (Flow × SharedT × Code × Pos)
  | 0, _, _ => none
  | m + 1, s, t => match endAt b t with
    | some f => some (f, s, t.code, t.pos)
    | none => match stepOk n0 ann t with
      | false => none
      | true => match st s t with
        | some (s', t') => frS s' fun s' => segT m s' t'
        | none => none
/-- the reads -/
def reads (t : Thread) : Bool := match t.cur with
  | .pure _ | .raise _ => match t.stack with
    | .gen .. :: _ => false
    | _ => true
  | .rule .. | .at .. | .load .. | .loadIfAlive .. | .ask .. | .call .. | .handled .. | .stack .. | .point .. => true
  | _ => false
/-- a piece that only reads -/
def segR : Nat → SharedT → Thread → Option (Flow × Code × Pos)
  | 0, _, _ => none
  | m + 1, s, t => match endAt b t with
    | some f => some (f, t.code, t.pos)
    | none => match stepOk n0 ann t with
      | false => none
      | true => match reads t with
        | false => none
        | true => match st s t with
          | some (_, t') => segR m s t'
          | none => none
end
section
variable {tb : String → Option Builtin} {p : Program} {w : World} {n0 : Nat} {ann : Option Value} {b : Nat}
theorem segT_ok : ∀ {m : Nat} {s : SharedT} {t : Thread} {f : Flow} {s' : SharedT} {c : Code} {q : Pos}, segT (stepT (denote tb) p w) n0 ann b m s t = some (f, s', c, q) → segRun tb p w n0 ann b m s.abs t = some (f, s'.abs, c, q)
  | 0, _, _, _, _, _, _, h => by cases h
  | m + 1, s, t, f, s', c, q, h => by
    unfold segT at h
    unfold segRun
    cases he : endAt b t with
    | some g =>
      rw [he] at h
      cases h
      rfl
    | none =>
      rw [he] at h
      cases hk : stepOk n0 ann t with
      | false =>
        rw [hk] at h
        cases h
      | true =>
        rw [hk] at h
        cases hs : stepT (denote tb) p w s t with
        | none =>
          rw [hs] at h
          cases h
        | some r =>
          obtain ⟨s2, t2⟩ := r
          rw [hs] at h
          have h3 : (frS s2 fun s' => segT (stepT (denote tb) p w) n0 ann b m s' t2) = some (f, s', c, q) := h
          rw [frS_eq] at h3
          rw [stepT_spec hs]
          exact segT_ok h3
theorem step_reads {den : Code → Sem Fin} {s s' : Shared} {t t' : Thread} (r : reads t = true) (h : step den p w s t = .go s' t') : s' = s := by
  obtain ⟨heap, gens, drawn, toks, os⟩ := s
  obtain ⟨cur, code, pos, stack⟩ := t
  cases cur <;> first | (simp only [reads] at r; cases r; done) | skip
  case pure f =>
    cases f with
    | done f =>
      cases stack with
      | nil => simp only [step, finish] at h; split at h <;> cases h
      | cons fr l =>
        cases fr with
        | gen => simp [reads] at r
        | ret => simp only [step, Step.go.injEq] at h; exact h.1.symm
    | again c => simp only [step, Step.go.injEq] at h; exact h.1.symm
  case raise e =>
    cases stack with
    | nil => simp only [step, finish] at h; split at h <;> cases h
    | cons fr l =>
      cases fr with
      | gen => simp [reads] at r
      | ret => simp only [step, Step.go.injEq] at h; exact h.1.symm
  all_goals (simp only [step] at h; (repeat' split at h) <;> simp_all <;> (try (obtain ⟨h, _⟩ := h; subst h; rfl)))
theorem segR_ok : ∀ {m : Nat} {s : SharedT} {t : Thread} {f : Flow} {c : Code} {q : Pos}, segR (stepT (denote tb) p w) n0 ann b m s t = some (f, c, q) → segRun tb p w n0 ann b m s.abs t = some (f, s.abs, c, q)
  | 0, _, _, _, _, _, h => by cases h
  | m + 1, s, t, f, c, q, h => by
    unfold segR at h
    unfold segRun
    cases he : endAt b t with
    | some g =>
      rw [he] at h
      cases h
      rfl
    | none =>
      rw [he] at h
      cases hk : stepOk n0 ann t with
      | false =>
        rw [hk] at h
        cases h
      | true =>
        rw [hk] at h
        cases hr : reads t with
        | false =>
          rw [hr] at h
          cases h
        | true =>
          rw [hr] at h
          cases hs : stepT (denote tb) p w s t with
          | none =>
            rw [hs] at h
            cases h
          | some r =>
            obtain ⟨s2, t2⟩ := r
            rw [hs] at h
            have h3 : segR (stepT (denote tb) p w) n0 ann b m s t2 = some (f, c, q) := h
            have sp := stepT_spec hs
            have e : s2.abs = s.abs := step_reads hr sp
            rw [e] at sp
            rw [sp]
            exact segR_ok h3
end

/-! ### a look-up whose hash meets others, but no equal key -/
section
variable {tb : String → Option Builtin} {p : Program} {w : World} {n0 : Nat} {ann : Option Value} {B : List Frame} {c : Code} {L : List Value} {s : Shared} {q : Pos}
/-- what a look-up reads of the dict and its keys -/
structure Seek (tb : String → Option Builtin) (p : Program) (w : World) (n0 : Nat) (ann : Option Value) (B : List Frame) (c : Code) (L : List Value) (n : Nat) (s : Shared) (q : Pos) (d a : Addr) (es : Array DictEntry) (ep : Nat) : Prop where
  ents : Gets tb p w n0 ann B c L n (dictEntries d (keyPart (.ref a))) s q es s q
  epoch : Gets tb p w n0 ann B c L n (dictEpoch d (keyPart (.ref a))) s q ep s q
  quiet : Gets tb p w n0 ann B c L n (eqIsQuiet 8 (.ref a)) s q true s q
  keys : ∀ e ∈ es.toList, ∃ b, e.key = .ref b ∧ b ≠ a ∧ Gets tb p w n0 ann B c L n (eqIsQuiet 8 e.key) s q true s q ∧ Gets tb p w n0 ann B c L n (eqBool e.key (.ref a)) s q false s q
theorem Gets.forIn {γ β : Type} {n : Nat} {init : β} {f : γ → β → Sem (ForInStep β)} : ∀ {l : List γ}, (∀ x ∈ l, Gets tb p w n0 ann B c L n (f x init) s q (.yield init) s q) → Gets tb p w n0 ann B c L (l.length * n) (ForIn.forIn (m := Sem) l init f) s q init s q
  | [], _ => by
    rw [List.forIn_nil]
    exact Gets.pure
  | x :: l, h => by
    rw [List.forIn_cons]
    refine Gets.mono (Gets.bind (h x List.mem_cons_self) (Gets.forIn (l := l) fun y hy => h y (List.mem_cons_of_mem _ hy))) ?_
    rw [List.length_cons, Nat.succ_mul]
    omega
theorem Seek.mayTell {n : Nat} {d a : Addr} {es : Array DictEntry} {ep : Nat} (k : Seek tb p w n0 ann B c L n s q d a es ep) (l : List Value) (hl : ∀ v ∈ l, ∃ e ∈ es.toList, e.key = v) : Gets tb p w n0 ann B c L ((l.length + 1) * n) (tableMayTell (.ref a) l) s q false s q := by
  unfold tableMayTell
  split
  · exact Gets.pure
  · refine Gets.mono (Gets.bind k.quiet (m := l.length * n) ?_) (by rw [Nat.succ_mul]; omega)
    simp only [Bool.not_true, Bool.false_eq_true, if_false]
    refine Gets.mono (Gets.bind (n := l.length * n) (m := 0) (Gets.forIn fun v hv => ?_) Gets.pure) (by omega)
    obtain ⟨e, he, rfl⟩ := hl v hv
    obtain ⟨b, _, _, hq, _⟩ := k.keys e he
    refine Gets.mono (Gets.bind (m := 0) hq ?_) (Nat.le_refl _)
    simp only [Bool.not_true, Bool.false_eq_true, if_false]
    exact Gets.pure
theorem Seek.none {n : Nat} {d a : Addr} {es : Array DictEntry} {ep : Nat} {h : Int} (k : Seek tb p w n0 ann B c (L ++ [Value.ref a].filter Value.isRef) n s q d a es ep) : Gets tb p w n0 ann B c L (n + (es.size + 1) * n + es.size * (3 * n + 1)) (dictFind d (.ref a) h) s q none s q := by
  have hplace : ∀ i ∈ placesWithHash es.size (fun i => es[i]?.map (·.hash)) h, ∃ e ∈ es.toList, es[i]? = some e ∧ (e.hash == h) = true := by
    intro i hi
    unfold placesWithHash at hi
    obtain ⟨_, h2⟩ := List.mem_filter.mp hi
    dsimp only at h2
    cases e : es[i]? with
    | none => rw [e] at h2; simp at h2
    | some x =>
      rw [e] at h2
      exact ⟨x, Array.mem_toList_iff.mpr (Array.mem_of_getElem? e), rfl, by simpa using h2⟩
  have hlen : (placesWithHash es.size (fun i => es[i]?.map (·.hash)) h).length ≤ es.size := by
    unfold placesWithHash
    refine Nat.le_trans (List.length_filter_le _ _) ?_
    rw [List.length_range]
    exact Nat.le_refl _
  have hst : ∀ v ∈ (placesWithHash es.size (fun i => es[i]?.map (·.hash)) h).filterMap (fun i => es[i]?.map (·.key)), ∃ e ∈ es.toList, e.key = v := by
    intro v hv
    obtain ⟨i, hi, e2⟩ := List.mem_filterMap.mp hv
    obtain ⟨e, he, e3, _⟩ := hplace i hi
    rw [e3] at e2
    exact ⟨e, he, by simpa using e2⟩
  have hstl : ((placesWithHash es.size (fun i => es[i]?.map (·.hash)) h).filterMap (fun i => es[i]?.map (·.key))).length ≤ es.size := Nat.le_trans (List.length_filterMap_le _ _) hlen
  have hany : ¬ (es.any fun e => e.key == Value.ref a && e.hash != h) = true := by
    rw [← Array.any_toList, List.any_eq_true]
    rintro ⟨e, hin, hc⟩
    obtain ⟨b, e1, e2, _⟩ := k.keys e hin
    simp only [e1, Bool.and_eq_true, beq_iff_eq, Value.ref.injEq] at hc
    exact e2 hc.1
  unfold dictFind
  refine Gets.holding ?_
  refine Gets.mono (Gets.bind k.ents (m := (es.size + 1) * n + es.size * (3 * n + 1)) ?_) (by omega)
  dsimp only
  rw [if_neg (show ¬ ((Value.ref a :: (placesWithHash es.size (fun i => es[i]?.map (·.hash)) h).filterMap (fun i => es[i]?.map (·.key))).all carriedByValue) = true by simp [carriedByValue])]
  rw [if_neg hany]
  have hno : (((placesWithHash es.size (fun i => es[i]?.map (·.hash)) h).filterMap (fun i => es[i]?.map (·.key))) == [Value.ref a]) = false := by
    cases e : (((placesWithHash es.size (fun i => es[i]?.map (·.hash)) h).filterMap (fun i => es[i]?.map (·.key))) == [Value.ref a]) with
    | false => rfl
    | true =>
      have e2 := eq_of_beq e
      obtain ⟨x, hx, e3⟩ := hst (.ref a) (by rw [e2]; exact List.mem_cons_self)
      obtain ⟨b, e4, e5, _⟩ := k.keys x hx
      rw [e3] at e4
      exact absurd (Value.ref.inj e4).symm e5
  rw [hno]
  simp only [Bool.false_eq_true, if_false]
  refine Gets.bind ((k.mayTell _ hst).mono (Nat.mul_le_mul_right n (Nat.succ_le_succ hstl))) ?_
  simp only [Bool.false_and, Bool.false_eq_true, if_false]
  refine Gets.mono (Gets.bind (n := es.size * (3 * n + 1)) (m := 0) ((Gets.forIn (n := 3 * n + 1) fun i hi => ?_).mono (Nat.mul_le_mul_right _ hlen)) Gets.pure) (by omega)
  obtain ⟨e, he, e3, e4⟩ := hplace i hi
  obtain ⟨b, e1, _, _, hq⟩ := k.keys e he
  rw [e3]
  dsimp only
  rw [if_pos e4]
  refine Gets.mono (n := n + (n + (n + 1))) (Gets.bind k.epoch ?_) (by omega)
  refine Gets.bind hq ?_
  refine Gets.bind k.epoch ?_
  rw [if_neg (by simp)]
  simp only [Bool.false_eq_true, if_false]
  exact Gets.bind (n := 1) (m := 0) Gets.rule Gets.pure
end
end SH
set_option Elab.async false
set_option linter.all false
set_option maxRecDepth 100000
/-! the display of a dict whose keys are tuples, off the tree -/
namespace SH
open PySem PySem.W PySem.Calls PyProof.Rows HandSHeadRun

def resV (v : Value) : Flow := .ret v
def resO : Option Value → Flow
  | some v => .ret v
  | none => .next
def resB (b : Bool) : Flow := .ret (.bool b)
def resU (_ : Unit) : Flow := .next
def resA (a : Addr) : Flow := .ret (.ref a)
theorem resV_inj {a b : Value} (h : resV a = resV b) : a = b := by cases h; rfl
theorem resO_inj {a b : Option Value} (h : resO a = resO b) : a = b := by
  cases a <;> cases b <;> simp only [resO] at h <;> first | rfl | (cases h; done) | (cases h; rfl)
theorem resB_inj {a b : Bool} (h : resB a = resB b) : a = b := by cases h; rfl
theorem resA_inj {a b : Addr} (h : resA a = resA b) : a = b := by cases h; rfl

abbrev fu : Nat := 400
section
variable (st : SharedT → Thread → Option (SharedT × Thread)) (n0 : Nat) (ann : Option Value) (B : List Frame) (c : Code)
abbrev thr {α : Type} (x : Sem α) (res : α → Flow) (L : List Value) (q : Pos) : Thread := ⟨x.wrap (fun a => .pure (.done (res a))) deadEnd id (L ++ ·), c, q, B⟩
/-- a part, run -/
def pr {α : Type} (x : Sem α) (res : α → Flow) (L : List Value) (s : SharedT) (q : Pos) : Option (Flow × SharedT × Code × Pos) := segT st n0 ann B.length fu s (thr B c x res L q)
/-- a part that only reads -/
def rd {α : Type} (x : Sem α) (res : α → Flow) (L : List Value) (s : SharedT) (q : Pos) : Option (Flow × Code) := match segR st n0 ann B.length fu s (thr B c x res L q) with
  | some (f, c', q') => match decide (q' = q) with
    | true => some (f, c')
    | false => none
  | none => none
def rdTrue {α : Type} (x : Sem α) (res : α → Flow) (L : List Value) (s : SharedT) (q : Pos) (b : Bool) : Option Code := match rd st n0 ann B c x res L s q with
  | some (.ret (.bool b'), c') => match b', b with
    | true, true => some c'
    | false, false => some c'
    | _, _ => none
  | _ => none
def keysR (a : Addr) (L : List Value) (s : SharedT) (q : Pos) : List DictEntry → Option (List Code)
  | [] => some []
  | e :: l => match e.key with
    | .ref b => match Nat.beq b a with
      | true => none
      | false => match rdTrue st n0 ann B c (eqIsQuiet 8 (.ref b)) resB L s q true with
        | some c1 => match rdTrue st n0 ann B c (eqBool (.ref b) (.ref a)) resB L s q false with
          | some c2 => match keysR a L s q l with
            | some cs => some (c1 :: c2 :: cs)
            | none => none
          | none => none
        | none => none
    | _ => none
def entsT (s : SharedT) (d : Addr) : Option (Array DictEntry × Nat) := match getT s d with
  | some o => match o.data with
    | .dict es ep => some (es, ep)
    | _ => none
  | none => none
def seekR (d a : Addr) (L : List Value) (s : SharedT) (q : Pos) : Option (List Code) := match entsT s d with
  | some (es, _) => match Nat.ble es.size 40 with
    | true => match rdTrue st n0 ann B c (eqIsQuiet 8 (.ref a)) resB L s q true with
      | some c1 => match keysR st n0 ann B c a L s q es.toList with
        | some cs => some (c1 :: cs)
        | none => none
      | none => none
    | false => none
  | none => none
/-- a bound of a look-up's steps -/
abbrev sk : Nat := fu + 41 * fu + 40 * (3 * fu + 1)
end

section
variable {p : Program} {w : World} {n0 : Nat} {ann : Option Value} {B : List Frame} {c : Code} {L : List Value}
theorem Gets.load {α : Type} {a : Addr} {part : Option Value} {o : Obj} {k : Obj → Sem α} {z : α} {n : Nat} {s s1 : Shared} {q q1 : Pos} (ho : s.heap.get? a = some o) (h : Gets treeTable p w n0 ann B c L n (k o) s q z s1 q1) : Gets treeTable p w n0 ann B c L (n + 1) (.load a part k) s q z s1 q1 :=
  Gets.step1 (y := k o) (fun _ _ => by simp only [Sem.wrap, through, Bool.and_false]) (fun _ _ => rfl) (fun K H => by
    obtain ⟨heap, gens, drawn, toks, os⟩ := s
    simp only [Sem.wrap, step]
    rw [show heap.get? a = some o from ho]) h
theorem Gets.ents {d : Addr} {part : Option Value} {o : Obj} {es : Array DictEntry} {ep : Nat} {s : Shared} {q : Pos} (ho : s.heap.get? d = some o) (hd : o.data = .dict es ep) : Gets treeTable p w n0 ann B c L 1 (dictEntries d part) s q es s q := by
  show Gets treeTable p w n0 ann B c L 1 (Sem.load d part fun o => _) s q es s q
  refine Gets.load (n := 0) ho ?_
  show Gets treeTable p w n0 ann B c L 0 (match o.data with
    | .dict es _ => Pure.pure es
    | _ => unsupported "internal:not-a-dict") s q es s q
  rw [hd]
  exact Gets.pure
theorem Gets.epoch {d : Addr} {part : Option Value} {o : Obj} {es : Array DictEntry} {ep : Nat} {s : Shared} {q : Pos} (ho : s.heap.get? d = some o) (hd : o.data = .dict es ep) : Gets treeTable p w n0 ann B c L 1 (dictEpoch d part) s q ep s q := by
  show Gets treeTable p w n0 ann B c L 1 (Sem.load d part fun o => _) s q ep s q
  refine Gets.load (n := 0) ho ?_
  show Gets treeTable p w n0 ann B c L 0 (match o.data with
    | .dict _ n => Pure.pure n
    | _ => unsupported "internal:not-a-dict") s q ep s q
  rw [hd]
  exact Gets.pure
theorem pr_ok {α : Type} {x : Sem α} {res : α → Flow} {a : α} {s s1 : SharedT} {q q1 : Pos} {c' : Code} (hB : splitAtGen B = none) (inj : ∀ a', res a' = res a → a' = a) (h : pr (stepT (denote treeTable) p w) n0 ann B c x res L s q = some (res a, s1, c', q1)) (hc : c' = c) : Gets treeTable p w n0 ann B c L fu x s.abs q a s1.abs q1 := by
  subst hc
  exact Gets.of_seg hB inj (segT_ok h)
theorem rd_ok {α : Type} {x : Sem α} {res : α → Flow} {a : α} {s : SharedT} {q : Pos} {c' : Code} (hB : splitAtGen B = none) (inj : ∀ a', res a' = res a → a' = a) (h : rd (stepT (denote treeTable) p w) n0 ann B c x res L s q = some (res a, c')) (hc : c' = c) : Gets treeTable p w n0 ann B c L fu x s.abs q a s.abs q := by
  subst hc
  unfold rd at h
  split at h
  · rename_i f c2 q2 e
    split at h
    · rename_i e2
      have e3 : q2 = q := of_decide_eq_true e2
      cases h
      subst e3
      exact Gets.of_seg hB inj (segR_ok e)
    · cases h
  · cases h
theorem rdTrue_ok {x : Sem Bool} {b : Bool} {s : SharedT} {q : Pos} {c' : Code} (hB : splitAtGen B = none) (h : rdTrue (stepT (denote treeTable) p w) n0 ann B c x resB L s q b = some c') (hc : c' = c) : Gets treeTable p w n0 ann B c L fu x s.abs q b s.abs q := by
  unfold rdTrue at h
  split at h
  · rename_i b' c2 e
    cases b' <;> cases b <;> simp only at h <;> first | (cases h; done) | (cases h; exact rd_ok hB (fun _ => resB_inj) e hc)
  · cases h
theorem keysR_ok {a : Addr} {s : SharedT} {q : Pos} (hB : splitAtGen B = none) : ∀ {l : List DictEntry} {cs : List Code}, keysR (stepT (denote treeTable) p w) n0 ann B c a L s q l = some cs → (∀ x ∈ cs, x = c) →
    ∀ e ∈ l, ∃ b, e.key = .ref b ∧ b ≠ a ∧ Gets treeTable p w n0 ann B c L fu (eqIsQuiet 8 e.key) s.abs q true s.abs q ∧ Gets treeTable p w n0 ann B c L fu (eqBool e.key (.ref a)) s.abs q false s.abs q
  | [], _, _, _, e, he => absurd he (by simp)
  | e :: l, cs, h, hc, e', he => by
    unfold keysR at h
    split at h
    · rename_i b eb
      split at h
      · cases h
      · rename_i hne
        split at h
        · rename_i c1 h1
          split at h
          · rename_i c2 h2
            split at h
            · rename_i cs' h3
              cases h
              rcases List.mem_cons.mp he with rfl | he
              · refine ⟨b, eb, fun q => ?_, ?_, ?_⟩
                · rw [q, Nat.beq_refl] at hne
                  cases hne
                · rw [eb]
                  exact rdTrue_ok hB h1 (hc _ (by simp))
                · rw [eb]
                  exact rdTrue_ok hB h2 (hc _ (by simp))
              · exact keysR_ok hB h3 (fun x hx => hc x (by simp [hx])) e' he
            · cases h
          · cases h
        · cases h
    · cases h
theorem entsT_ok {s : SharedT} {d : Addr} {es : Array DictEntry} {ep : Nat} (h : entsT s d = some (es, ep)) : ∃ o, s.abs.heap.get? d = some o ∧ o.data = .dict es ep := by
  unfold entsT at h
  split at h
  · rename_i o e
    split at h
    · rename_i es' ep' e2
      cases h
      exact ⟨o, by rw [← getT_eq]; exact e, e2⟩
    · cases h
  · cases h
theorem seekR_ok {d a : Addr} {s : SharedT} {q : Pos} {cs : List Code} {h : Int} (hB : splitAtGen B = none) (k : seekR (stepT (denote treeTable) p w) n0 ann B c d a (L ++ [Value.ref a].filter Value.isRef) s q = some cs) (hc : ∀ x ∈ cs, x = c) :
    Gets treeTable p w n0 ann B c L sk (dictFind d (.ref a) h) s.abs q none s.abs q := by
  unfold seekR at k
  split at k
  · rename_i es ep e
    obtain ⟨o, ho, hd⟩ := entsT_ok e
    split at k
    · rename_i le
      have le := Nat.le_of_ble_eq_true le
      split at k
      · rename_i c1 h1
        split at k
        · rename_i cs' h2
          cases k
          refine Gets.mono (Seek.none (n := fu) ⟨(Gets.ents ho hd).mono (by decide), (Gets.epoch ho hd).mono (by decide), rdTrue_ok hB h1 (hc _ (by simp)), keysR_ok hB h2 fun x hx => hc x (by simp [hx])⟩) ?_
          have e1 : (es.size + 1) * fu ≤ 41 * fu := Nat.mul_le_mul_right fu (Nat.succ_le_succ le)
          have e2 := Nat.mul_le_mul_right (3 * fu + 1) le
          exact Nat.add_le_add (Nat.add_le_add_left e1 fu) e2
        · cases k
      · cases k
    · cases k
  · cases k
end
end SH
set_option Elab.async false
set_option linter.all false
set_option maxRecDepth 100000
namespace SH
open PySem PySem.W PySem.Calls PyProof.Rows HandSHeadRun

theorem tupleHash_range (hs : List Int) : (-(2 ^ 63 : Int) ≤ Builtin.Tuple.tupleHashOf hs) ∧ Builtin.Tuple.tupleHashOf hs < 2 ^ 63 := by
  unfold Builtin.Tuple.tupleHashOf
  dsimp only
  generalize (hs.foldl _ _) = acc
  have h2 : (acc + (hs.length ^^^ (2870177450012600261 ^^^ 3527539))) % 2 ^ 64 < 2 ^ 64 := Nat.mod_lt _ (by decide)
  generalize (acc + (hs.length ^^^ (2870177450012600261 ^^^ 3527539))) % 2 ^ 64 = z at h2
  split
  · omega
  · split <;> omega
def redH (i : Int) : Int := if i == -1 then -2 else i
theorem reduced_eq (hs : List Int) : pyHashByItsType.reduced (Builtin.Tuple.tupleHashOf hs) = Pure.pure (redH (Builtin.Tuple.tupleHashOf hs)) := by
  unfold pyHashByItsType.reduced
  rw [if_pos (by obtain ⟨h1, h2⟩ := tupleHash_range hs; simp only [Bool.and_eq_true, decide_eq_true_eq]; exact ⟨h1, h2⟩)]
  rfl
def hErr (v : Value) : Sem Value := do rule "hash.unhashable"; raiseError "TypeError" s!"unhashable type: '{← PySem.typeNameOf v}'"
section
variable (st : SharedT → Thread → Option (SharedT × Thread)) (n0 : Nat) (ann : Option Value) (B : List Frame) (c : Code)
def hashR (L : List Value) (a : Addr) (s : SharedT) (q : Pos) : Option (Int × SharedT × Pos × List Code) :=
  match pr st n0 ann B c (cRoomFor "hash" [.ref a]) resU L s q with
  | some (.next, s1, c1, q1) => match pr st n0 ann B c (specialOf (.ref a) "__hash__") resO L s1 q1 with
    | some (.ret (.builtin _), s2, c2, q2) => match pr st n0 ann B c (specialOf (.ref a) "__hash__") resO L s2 q2 with
      | some (.ret (.builtin _), s3, c3, q3) => match pr st n0 ann B c (callSpecialIfBoundUnlessNone? (.ref a) "__hash__" (hErr (.ref a))) resO L s3 q3 with
        | some (.ret (.int i _), s4, c4, q4) => some (i, s4, q4, [c1, c2, c3, c4])
        | _ => none
      | _ => none
    | _ => none
  | _ => none
end
section
variable {p : Program} {w : World} {n0 : Nat} {ann : Option Value} {B : List Frame} {c : Code} {L : List Value}
theorem resU_inj {a b : Unit} (_ : resU a = resU b) : a = b := rfl
theorem hashR_ok {a : Addr} {s s1 : SharedT} {q q1 : Pos} {i : Int} {hs : List Int} {cs : List Code} (hB : splitAtGen B = none) (h : hashR (stepT (denote treeTable) p w) n0 ann B c L a s q = some (i, s1, q1, cs)) (hc : ∀ x ∈ cs, x = c) (hi : i = Builtin.Tuple.tupleHashOf hs) :
    Gets treeTable p w n0 ann B c L (4 * fu) (pyHash (.ref a)) s.abs q (redH (Builtin.Tuple.tupleHashOf hs)) s1.abs q1 := by
  unfold hashR at h
  split at h
  · rename_i t1 c1 p1 e1
    split at h
    · rename_i id1 t2 c2 p2 e2
      split at h
      · rename_i id2 t3 c3 p3 e3
        split at h
        · rename_i i' tk t4 c4 p4 e4
          cases h
          subst hi
          show Gets treeTable p w n0 ann B c L (4 * fu) (pyHashByItsType (.ref a)) s.abs q _ _ _
          unfold pyHashByItsType
          refine Gets.mono (n := fu + (fu + (fu + (fu + 0)))) ?_ (by decide)
          refine Gets.bind (pr_ok (res := resU) (a := ()) hB (fun _ => resU_inj) e1 (hc _ (by simp))) ?_
          refine Gets.bind (pr_ok (res := resO) (a := some (.builtin id1)) hB (fun _ h => resO_inj h) e2 (hc _ (by simp))) ?_
          dsimp only
          rw [if_neg (show ¬ ((some (Value.builtin id1) == some Value.none) = true) from fun z => nomatch (show false = true from z))]
          refine Gets.bind (pr_ok (res := resO) (a := some (.builtin id2)) hB (fun _ h => resO_inj h) e3 (hc _ (by simp))) ?_
          rw [if_neg (show ¬ ((some (Value.builtin id2)).isNone = true) from fun z => nomatch (show false = true from z))]
          refine Gets.bind (pr_ok (res := resO) (x := callSpecialIfBoundUnlessNone? (.ref a) "__hash__" (hErr (.ref a))) (a := some (.int (Builtin.Tuple.tupleHashOf hs) tk)) hB (fun _ h => resO_inj h) e4 (hc _ (by simp))) ?_
          show Gets treeTable p w n0 ann B c L 0 (pyHashByItsType.reduced (Builtin.Tuple.tupleHashOf hs)) _ _ _ _ _
          rw [reduced_eq]
          exact Gets.pure
        · cases h
      · cases h
    · cases h
  · cases h
end
end SH
set_option Elab.async false
set_option linter.all false
set_option maxRecDepth 100000
namespace SH
open PySem PySem.W PySem.Calls PyProof.Rows HandSHeadRun

/-- a look-up to be checked: the dict, the key, what is live above it, the state, the place -/
structure Req where
  d : Addr
  a : Addr
  L : List Value
  s : SharedT
  q : Pos
section
variable (st : SharedT → Thread → Option (SharedT × Thread)) (n0 : Nat) (ann : Option Value) (B : List Frame) (c : Code)
/-- a new entry -/
def putNew (d : Addr) (h : Int) (key v : Value) : Sem Unit := do rule "dict.set.new-key-at-the-end"; updateDictKeys d (·.push ⟨h, key, v⟩) (keyPart key)
def live (vs : List Value) : List Value := vs.filter Value.isRef
def pairR (d : Addr) (L : List Value) (x : (Sem Value × Sem Value) × List Int) (s : SharedT) (q : Pos) : Option (SharedT × Pos × List Code × Int × Req) :=
  match pr st n0 ann B c x.1.1 resV L s q with
  | some (.ret (.ref a), s1, c1, q1) => match pr st n0 ann B c x.1.2 resV (L ++ [Value.ref a].filter Value.isRef) s1 q1 with
    | some (.ret vv, s2, c2, q2) => match hashR st n0 ann B c (L ++ [Value.ref a, vv].filter Value.isRef ++ [Value.ref a, vv].filter Value.isRef) a s2 q2 with
      | some (i, s3, q3, cs3) => match pr st n0 ann B c (putNew d (redH (Builtin.Tuple.tupleHashOf x.2)) (.ref a) vv) resU (L ++ [Value.ref a, vv].filter Value.isRef ++ [Value.ref a, vv].filter Value.isRef ++ [Value.ref a, vv].filter Value.isRef) s3 q3 with
        | some (.next, s5, c5, q5) => some (s5, q5, c1 :: c2 :: c5 :: cs3, i, ⟨d, a, L ++ [Value.ref a, vv].filter Value.isRef ++ [Value.ref a, vv].filter Value.isRef ++ [Value.ref a, vv].filter Value.isRef ++ [Value.ref a].filter Value.isRef, s3, q3⟩)
        | _ => none
      | none => none
    | _ => none
  | _ => none
def pairsR (d : Addr) (L : List Value) : List ((Sem Value × Sem Value) × List Int) → SharedT → Pos → Option (SharedT × Pos × List Code × List Int × List Req)
  | [], s, q => some (s, q, [], [], [])
  | x :: l, s, q => match pairR st n0 ann B c d L x s q with
    | some (s1, q1, cs, i, r) => match pairsR d L l s1 q1 with
      | some (s2, q2, cs', is, rs) => some (s2, q2, cs ++ cs', i :: is, r :: rs)
      | none => none
    | none => none
def subR (L : List Value) (l : List ((Sem Value × Sem Value) × List Int)) (s : SharedT) (q : Pos) : Option (Addr × SharedT × Pos × List Code × List Int × List Req) :=
  match pr st n0 ann B c (alloc { cls := .type "dict", data := .dict #[] }) resA L s q with
  | some (.ret (.ref d), s1, c1, q1) => match pairsR st n0 ann B c d (L ++ [Value.ref d].filter Value.isRef) l s1 q1 with
    | some (s2, q2, cs, is, rs) => some (d, s2, q2, c1 :: cs, is, rs)
    | none => none
  | _ => none
/-- the check of a look-up comes out well -/
def ReqOk (r : Req) : Prop := ∃ cs, seekR st n0 ann B c r.d r.a r.L r.s r.q = some cs ∧ ∀ x ∈ cs, x = c
end
section
variable {p : Program} {w : World} {n0 : Nat} {ann : Option Value} {B : List Frame} {c : Code} {L : List Value}
abbrev pn : Nat := 7 * fu + sk
theorem pairR_ok {d : Addr} {x : (Sem Value × Sem Value) × List Int} {s s1 : SharedT} {q q1 : Pos} {cs : List Code} {i : Int} {r : Req} (hB : splitAtGen B = none) (h : pairR (stepT (denote treeTable) p w) n0 ann B c d L x s q = some (s1, q1, cs, i, r)) (hr : ReqOk (stepT (denote treeTable) p w) n0 ann B c r) (hc : ∀ x ∈ cs, x = c) (hi : i = Builtin.Tuple.tupleHashOf x.2) :
    Gets treeTable p w n0 ann B c L pn (do
      let kv ← x.1.1
      let vv ← holding [kv] x.1.2
      holding [kv, vv] (dictSet d kv vv)) s.abs q () s1.abs q1 := by
  unfold pairR at h
  split at h
  · rename_i a t1 c1 p1 e1
    split at h
    · rename_i vv t2 c2 p2 e2
      split at h
      · rename_i i' t3 p3 cs3 e3
        split at h
        · rename_i t5 c5 p5 e5
          cases h
          obtain ⟨cs4, e4, hc4⟩ := hr
          dsimp only at e4
          have hc3 : ∀ y ∈ cs3, y = c := fun y hy => hc y (by simp [hy])
          refine Gets.mono (n := fu + (fu + (4 * fu + (sk + fu)))) ?_ (by unfold pn; omega)
          refine Gets.bind (pr_ok (res := resV) (a := .ref a) hB (fun _ h => resV_inj h) e1 (hc _ (by simp))) ?_
          refine Gets.bind (Gets.holding (pr_ok (res := resV) (a := vv) hB (fun _ h => resV_inj h) e2 (hc _ (by simp)))) ?_
          refine Gets.holding ?_
          unfold dictSet
          refine Gets.holding ?_
          refine Gets.bind (hashR_ok hB e3 hc3 hi) ?_
          unfold dictSetHashed
          refine Gets.holding ?_
          refine Gets.bind (seekR_ok hB e4 hc4) ?_
          exact pr_ok (res := resU) (x := putNew d (redH (Builtin.Tuple.tupleHashOf x.2)) (.ref a) vv) (a := ()) hB (fun _ h => resU_inj h) e5 (hc _ (by simp))
        · cases h
      · cases h
    · cases h
  · cases h
theorem pairsR_ok {d : Addr} (hB : splitAtGen B = none) : ∀ {l : List ((Sem Value × Sem Value) × List Int)} {s s1 : SharedT} {q q1 : Pos} {cs : List Code} {is : List Int} {rs : List Req}, pairsR (stepT (denote treeTable) p w) n0 ann B c d L l s q = some (s1, q1, cs, is, rs) → (∀ r ∈ rs, ReqOk (stepT (denote treeTable) p w) n0 ann B c r) → (∀ x ∈ cs, x = c) → is = l.map (fun x => Builtin.Tuple.tupleHashOf x.2) →
    Gets treeTable p w n0 ann B c L (l.length * pn) (ForIn.forIn (m := Sem) (l.map (·.1)) PUnit.unit fun x _ => (do
      let kv ← x.1
      let vv ← holding [kv] x.2
      holding [kv, vv] (dictSet d kv vv)
      Pure.pure (ForInStep.yield PUnit.unit))) s.abs q PUnit.unit s1.abs q1
  | [], s, s1, q, q1, cs, is, rs, h, _, _, _ => by
    cases h
    rw [List.map_nil, List.forIn_nil]
    exact Gets.pure
  | x :: l, s, s1, q, q1, cs, is, rs, h, hr, hc, hi => by
    unfold pairsR at h
    split at h
    · rename_i t1 p1 cs1 i1 r1 e1
      split at h
      · rename_i t2 p2 cs2 is2 rs2 e2
        cases h
        rw [List.map_cons] at hi
        obtain ⟨hi1, hi2⟩ := List.cons.inj hi
        rw [List.map_cons, List.forIn_cons]
        have z := pairR_ok hB e1 (hr _ (by simp)) (fun y hy => hc y (by simp [hy])) hi1
        have z2 := pairsR_ok hB e2 (fun y hy => hr y (by simp [hy])) (fun y hy => hc y (by simp [hy])) hi2
        have z3 : Gets treeTable p w n0 ann B c L (pn + 0) (((do
          let kv ← x.1.1
          let vv ← holding [kv] x.1.2
          holding [kv, vv] (dictSet d kv vv)) : Sem Unit) >>= fun _ => Pure.pure (ForInStep.yield PUnit.unit)) s.abs q (ForInStep.yield PUnit.unit) t1.abs p1 := Gets.bind z Gets.pure
        simp only [bind_assoc] at z3
        refine Gets.mono (Gets.bind z3 z2) ?_
        rw [List.length_cons, Nat.succ_mul]
        omega
      · cases h
    · cases h
theorem subR_ok {l : List ((Sem Value × Sem Value) × List Int)} {s s1 : SharedT} {q q1 : Pos} {d : Addr} {cs : List Code} {is : List Int} {rs : List Req} (hB : splitAtGen B = none) (hl : 15 < l.length) (h : subR (stepT (denote treeTable) p w) n0 ann B c L l s q = some (d, s1, q1, cs, is, rs)) (hr : ∀ r ∈ rs, ReqOk (stepT (denote treeTable) p w) n0 ann B c r) (hc : ∀ x ∈ cs, x = c) (hi : is = l.map (fun x => Builtin.Tuple.tupleHashOf x.2)) :
    Gets treeTable p w n0 ann B c L (fu + (1 + l.length * pn)) (subDict (l.map (·.1))) s.abs q d s1.abs q1 := by
  unfold subR at h
  split at h
  · rename_i d' t1 c1 p1 e1
    split at h
    · rename_i t2 p2 cs2 is2 rs2 e2
      cases h
      unfold subDict
      refine Gets.bind (pr_ok (res := resA) (a := d) hB (fun _ h => resA_inj h) e1 (hc _ (by simp))) ?_
      refine Gets.mono (n := (1 + (l.length * pn + 0)) + 0) (Gets.bind (a := ()) (Gets.holding ?_) Gets.pure) (by simp only [Nat.add_zero]; exact Nat.le_refl _)
      rw [if_neg (by rw [List.length_map]; omega)]
      refine Gets.bind (a := ()) Gets.rule ?_
      have z := pairsR_ok hB e2 hr (fun y hy => hc y (by simp [hy])) hi
      exact Gets.bind z Gets.pure
    · cases h
  · cases h
end
end SH
set_option Elab.async false
set_option linter.all false
set_option maxRecDepth 100000
namespace SH
open PySem PySem.W PySem.Calls PyProof.Rows HandSHeadRun

section
variable (st : SharedT → Thread → Option (SharedT × Thread)) (n0 : Nat) (ann : Option Value) (B : List Frame) (c : Code)
def stepR (d a : Addr) (epoch : Nat) (L : List Value) (i : Nat) (s : SharedT) (q : Pos) : Option (SharedT × Pos × Code × Req) :=
  match entsT s a with
  | some (es, _) => match es[i]? with
    | some ⟨h, .ref b, v⟩ => match pr st n0 ann B c (updateDictKeys d (·.push ⟨h, .ref b, v⟩)) resU (L ++ [Value.ref b, v].filter Value.isRef) s q with
      | some (.next, s1, c1, q1) => match entsT s1 a with
        | some (_, ep) => match Nat.beq ep epoch with
          | true => some (s1, q1, c1, ⟨d, b, L ++ [Value.ref b, v].filter Value.isRef ++ [Value.ref b].filter Value.isRef, s, q⟩)
          | false => none
        | none => none
      | _ => none
    | _ => none
  | none => none
def stepsR (d a : Addr) (epoch : Nat) (L : List Value) : List Nat → SharedT → Pos → Option (SharedT × Pos × List Code × List Req)
  | [], s, q => some (s, q, [], [])
  | i :: l, s, q => match stepR st n0 ann B c d a epoch L i s q with
    | some (s1, q1, c1, r) => match stepsR d a epoch L l s1 q1 with
      | some (s2, q2, cs', rs) => some (s2, q2, c1 :: cs', r :: rs)
      | none => none
    | none => none
def mergeR (d a : Addr) (L : List Value) (s : SharedT) (q : Pos) : Option (SharedT × Pos × List Code × List Req) :=
  match pr st n0 ann B c (isInstance (.ref a) (.type "dict")) resB L s q with
  | some (.ret (.bool true), s0, c0, q0) => match pr st n0 ann B c (specialOf (.ref a) "__iter__") resO L s0 q0 with
    | some (.ret (.builtin id), s1, c1, q1) => match some (Value.builtin id) == some (Value.builtin "dict.__iter__") with
      | true => match a == sysModules with
        | false => match entsT s1 d with
          | some (es, _) => match es.isEmpty with
            | false => match entsT s1 a with
              | some (es2, ep) => match Nat.ble es2.size 40 with
                | true => match stepsR st n0 ann B c d a ep L (List.range es2.size) s1 q1 with
                  | some (s2, q2, cs, rs) => some (s2, q2, c0 :: c1 :: cs, rs)
                  | none => none
                | false => none
              | none => none
            | true => none
          | none => none
        | true => none
      | false => none
    | _ => none
  | _ => none
end
section
variable {p : Program} {w : World} {n0 : Nat} {ann : Option Value} {B : List Frame} {c : Code} {L : List Value}
abbrev mn : Nat := 3 * fu + sk
theorem stepR_ok {d a : Addr} {ep i : Nat} {s s1 : SharedT} {q q1 : Pos} {c' : Code} {r : Req} (hB : splitAtGen B = none) (h : stepR (stepT (denote treeTable) p w) n0 ann B c d a ep L i s q = some (s1, q1, c', r)) (hr : ReqOk (stepT (denote treeTable) p w) n0 ann B c r) (hc : c' = c) :
    ∃ (es : Array DictEntry) (e : DictEntry), Gets treeTable p w n0 ann B c L 1 (dictEntries a) s.abs q es s.abs q ∧ es[i]? = some e ∧ Gets treeTable p w n0 ann B c L (sk + fu) (holding [e.key, e.val] (dictPut d e.hash e.key e.val)) s.abs q () s1.abs q1 ∧ Gets treeTable p w n0 ann B c L 1 (dictEpoch a) s1.abs q1 ep s1.abs q1 := by
  unfold stepR at h
  split at h
  · rename_i es ep0 e1
    obtain ⟨o, ho, hd⟩ := entsT_ok e1
    split at h
    · rename_i hh b v e2
      split at h
      · rename_i t1 c1 p1 e4
        split at h
        · rename_i es5 ep5 e5
          obtain ⟨o5, ho5, hd5⟩ := entsT_ok e5
          split at h
          · rename_i e6
            cases h
            obtain ⟨cs4, e3, hc4⟩ := hr
            dsimp only at e3
            obtain rfl : ep5 = ep := Nat.eq_of_beq_eq_true e6
            refine ⟨es, _, Gets.ents ho hd, e2, ?_, Gets.epoch ho5 hd5⟩
            refine Gets.holding ?_
            unfold dictPut
            refine Gets.bind (seekR_ok hB e3 hc4) ?_
            exact pr_ok (res := resU) (a := ()) hB (fun _ h => resU_inj h) e4 hc
          · cases h
        · cases h
      · cases h
    · cases h
  · cases h
theorem stepsR_ok {d a : Addr} {ep : Nat} (hB : splitAtGen B = none) (f : Nat → PUnit → Sem (ForInStep PUnit)) (hf : ∀ i, f i PUnit.unit = (do
      match (← dictEntries a)[i]? with
      | some e => do
        holding [e.key, e.val] (dictPut d e.hash e.key e.val)
        if ((← dictEpoch a) != ep) = true then do
          unsupported "dict.changed-during-merge"
          Pure.pure (ForInStep.yield PUnit.unit)
        else Pure.pure (ForInStep.yield PUnit.unit)
      | _ => do
        unsupported "dict.changed-during-merge"
        Pure.pure (ForInStep.yield PUnit.unit))) : ∀ {l : List Nat} {s s1 : SharedT} {q q1 : Pos} {cs : List Code} {rs : List Req}, stepsR (stepT (denote treeTable) p w) n0 ann B c d a ep L l s q = some (s1, q1, cs, rs) → (∀ r ∈ rs, ReqOk (stepT (denote treeTable) p w) n0 ann B c r) → (∀ x ∈ cs, x = c) →
    Gets treeTable p w n0 ann B c L (l.length * mn) (ForIn.forIn (m := Sem) l PUnit.unit f) s.abs q PUnit.unit s1.abs q1
  | [], s, s1, q, q1, cs, rs, h, _, _ => by
    cases h
    rw [List.forIn_nil]
    exact Gets.pure
  | i :: l, s, s1, q, q1, cs, rs, h, hr, hc => by
    unfold stepsR at h
    split at h
    · rename_i t1 p1 c1 r1 e1
      split at h
      · rename_i t2 p2 cs2 rs2 e2
        cases h
        rw [List.forIn_cons, hf]
        obtain ⟨es, e, g1, g2, g3, g4⟩ := stepR_ok hB e1 (hr _ (by simp)) (hc _ (by simp))
        have z2 := stepsR_ok hB f hf e2 (fun y hy => hr y (by simp [hy])) (fun y hy => hc y (by simp [hy]))
        refine Gets.mono (n := (1 + ((sk + fu) + (1 + 0))) + l.length * mn) (Gets.bind (a := ForInStep.yield PUnit.unit) (s1 := t1.abs) (q1 := p1) ?_ z2) (by
          rw [List.length_cons, Nat.succ_mul]
          generalize l.length * mn = z
          show 1 + ((sk + fu) + (1 + 0)) + z ≤ z + (3 * fu + sk)
          have : 1 ≤ fu := by decide
          omega)
        refine Gets.bind g1 ?_
        rw [g2]
        refine Gets.bind g3 ?_
        refine Gets.bind g4 ?_
        rw [if_neg (by simp)]
        exact Gets.pure
      · cases h
    · cases h
theorem ar (f x y : Nat) (h : x ≤ y) : f + (f + (1 + (1 + (1 + (x + 0))))) ≤ 2 * f + (3 + y) := by omega
theorem mergeR_ok {d a : Addr} {s s1 : SharedT} {q q1 : Pos} {cs : List Code} {rs : List Req} (hB : splitAtGen B = none) (h : mergeR (stepT (denote treeTable) p w) n0 ann B c d a L s q = some (s1, q1, cs, rs)) (hr : ∀ r ∈ rs, ReqOk (stepT (denote treeTable) p w) n0 ann B c r) (hc : ∀ x ∈ cs, x = c) :
    Gets treeTable p w n0 ann B c L (2 * fu + (3 + 40 * mn)) (mergeMapping d (.ref a) false) s.abs q () s1.abs q1 := by
  unfold mergeR at h
  split at h
  · rename_i t0 c0 p0 e0
    split at h
    · rename_i id t1 c1 p1 e1
      split at h
      · rename_i hid
        split at h
        · rename_i hs
          split at h
          · rename_i es ep0 e2
            obtain ⟨o, ho, hd⟩ := entsT_ok e2
            split at h
            · rename_i hne
              split at h
              · rename_i es2 ep e3
                obtain ⟨o3, ho3, hd3⟩ := entsT_ok e3
                split at h
                · rename_i le
                  have le := Nat.le_of_ble_eq_true le
                  split at h
                  · rename_i t2 p2 cs2 rs2 e4
                    cases h
                    unfold mergeMapping
                    refine Gets.mono (n := fu + (fu + (1 + (1 + (1 + (es2.size * mn + 0)))))) ?_ (ar fu _ _ (Nat.mul_le_mul_right mn le))
                    refine Gets.bind (pr_ok (res := resB) (a := true) hB (fun _ h => resB_inj h) e0 (hc _ (by simp))) ?_
                    rw [if_pos rfl]
                    refine Gets.bind (pr_ok (res := resO) (a := some (.builtin id)) hB (fun _ h => resO_inj h) e1 (hc _ (by simp))) ?_
                    rw [hid, pure_bind]
                    dsimp only
                    rw [hs]
                    simp only [Bool.false_eq_true, if_false]
                    refine Gets.bind (Gets.ents ho hd) ?_
                    rw [hne]
                    simp only [Bool.false_eq_true, if_false]
                    refine Gets.bind (Gets.ents ho3 hd3) ?_
                    refine Gets.bind (Gets.epoch ho3 hd3) ?_
                    refine Gets.bind (n := es2.size * mn) (m := 0) (a := PUnit.unit) ?_ Gets.pure
                    refine Gets.mono (stepsR_ok hB _ (fun _ => rfl) e4 hr (fun y hy => hc y (by simp [hy]))) ?_
                    rw [List.length_range]
                    exact Nat.le_refl _
                  · cases h
                · cases h
              · cases h
            · cases h
          · cases h
        · cases h
      · cases h
    · cases h
  · cases h
end
end SH
set_option Elab.async false
set_option linter.all false
set_option maxRecDepth 100000
namespace SH
open PySem PySem.W PySem.Calls PyProof.Rows HandSHeadRun

abbrev Pr := Sem Value × Sem Value
abbrev mkP (z : Pr) : Option (Sem Value) × Sem Value := (some z.1, z.2)
section
variable (st : SharedT → Thread → Option (SharedT × Thread)) (n0 : Nat) (ann : Option Value) (B : List Frame) (c : Code)
def displayR (L : List Value) (A C : List (Pr × List Int)) (s : SharedT) (q : Pos) : Option (Addr × SharedT × Pos × List Code × List Int × List Req) :=
  match subR st n0 ann B c L A s q with
  | some (d, s1, q1, cs1, is1, rs1) => match subR st n0 ann B c (L ++ [Value.ref d].filter Value.isRef) C s1 q1 with
    | some (e, s2, q2, cs2, is2, rs2) => match mergeR st n0 ann B c d e (L ++ [Value.ref d, Value.ref e].filter Value.isRef) s2 q2 with
      | some (s3, q3, cs3, rs3) => some (d, s3, q3, cs1 ++ (cs2 ++ cs3), is1 ++ is2, rs1 ++ (rs2 ++ rs3))
      | none => none
    | none => none
  | none => none
end
section
variable {p : Program} {w : World} {n0 : Nat} {ann : Option Value} {B : List Frame} {c : Code} {L : List Value}
theorem Gets.onRaise {α : Type} {n : Nat} {x : Sem α} {h : Value → Sem Unit} {a : α} {s s1 : Shared} {q q1 : Pos} (g : Gets treeTable p w n0 ann B c L n x s q a s1 q1) : Gets treeTable p w n0 ann B c L n (x.onRaise h) s q a s1 q1 := fun K H N r k => by
  rw [Sem.onRaise_eq_wrap, Sem.wrap_wrap]
  exact g K (fun e => ((h e).bind fun _ => .raise e).wrap K H id (L ++ ·)) N r k
theorem loop_small {f : Option (Sem Value) × Sem Value → Option Addr × List Pr → Sem (ForInStep (Option Addr × List Pr))}
    (hf : ∀ z main run, (run.length + 1 == 17) = false → f (mkP z) (main, run) = Pure.pure (ForInStep.yield (main, run ++ [z]))) : ∀ (l : List Pr) (main : Option Addr) (run : List Pr), run.length + l.length < 17 →
    ForIn.forIn (m := Sem) (l.map mkP) (main, run) f = Pure.pure (main, run ++ l)
  | [], main, run, _ => by
    rw [List.map_nil, List.forIn_nil, List.append_nil]
  | z :: l, main, run, h => by
    rw [List.length_cons] at h
    rw [List.map_cons, List.forIn_cons, hf z main run (by simp; omega), pure_bind]
    show ForIn.forIn (m := Sem) (l.map mkP) (main, run ++ [z]) f = _
    rw [loop_small hf l main (run ++ [z]) (by rw [List.length_append, List.length_singleton]; omega), List.append_assoc]
    rfl
theorem loop_two {f : Option (Sem Value) × Sem Value → Option Addr × List Pr → Sem (ForInStep (Option Addr × List Pr))}
    (hf : ∀ z main run, (run.length + 1 == 17) = false → f (mkP z) (main, run) = Pure.pure (ForInStep.yield (main, run ++ [z])))
    (hg : ∀ z run, (run.length + 1 == 17) = true → f (mkP z) (none, run) = (do
      let d ← subDict (run ++ [z])
      Pure.pure (ForInStep.yield (some d, [])))) : ∀ (l : List Pr) (z : Pr) (C run : List Pr), run.length + l.length = 16 → C.length < 17 →
    ForIn.forIn (m := Sem) (((l ++ [z]) ++ C).map mkP) (none, run) f = (do
      let d ← subDict (run ++ l ++ [z])
      Pure.pure (some d, C))
  | [], z, C, run, h, hC => by
    rw [List.nil_append, List.singleton_append, List.map_cons, List.forIn_cons, hg z run (by simp at h ⊢; omega), bind_assoc, List.append_nil]
    congr 1
    funext d
    rw [pure_bind]
    show ForIn.forIn (m := Sem) (C.map mkP) (some d, []) f = _
    rw [loop_small hf C (some d) [] (by simpa using hC)]
    rfl
  | y :: l, z, C, run, h, hC => by
    rw [List.length_cons] at h
    rw [List.cons_append, List.cons_append, List.map_cons, List.forIn_cons, hf y none run (by simp; omega), pure_bind]
    show ForIn.forIn (m := Sem) (((l ++ [z]) ++ C).map mkP) (none, run ++ [y]) f = _
    rw [loop_two hf hg l z C (run ++ [y]) (by rw [List.length_append, List.length_singleton]; omega) hC]
    simp only [List.append_assoc, List.singleton_append, List.cons_append, List.nil_append]
abbrev dn : Nat := 2 * (fu + (1 + 17 * pn)) + (2 * fu + (3 + 40 * mn))
theorem ar2 (f x y z X M : Nat) (h1 : y ≤ 17 * X) (h2 : x = 17 * X) : (f + (1 + x) + 0) + ((f + (1 + y)) + ((2 * f + (3 + z)) + 0) + 0) ≤ 2 * (f + (1 + 17 * X)) + (2 * f + (3 + z)) := by omega
theorem displayR_ok {A C : List (Pr × List Int)} {d : Addr} {s s1 : SharedT} {q q1 : Pos} {cs : List Code} {is : List Int} {rs : List Req} (hB : splitAtGen B = none) (hA : A.length = 17) (hC : 15 < C.length) (hC2 : C.length < 17)
    (h : displayR (stepT (denote treeTable) p w) n0 ann B c L A C s q = some (d, s1, q1, cs, is, rs)) (hr : ∀ r ∈ rs, ReqOk (stepT (denote treeTable) p w) n0 ann B c r) (hc : ∀ x ∈ cs, x = c) (hi : is = (A ++ C).map fun x => Builtin.Tuple.tupleHashOf x.2) (hi1 : ∀ e t1 p1 cs1 is1 rs1, subR (stepT (denote treeTable) p w) n0 ann B c L A s q = some (e, t1, p1, cs1, is1, rs1) → is1.length = A.length) :
    Gets treeTable p w n0 ann B c L dn (dictDisplay (((A ++ C).map (·.1)).map mkP)) s.abs q (.ref d) s1.abs q1 := by
  unfold displayR at h
  split at h
  · rename_i d' t1 p1 cs1 is1 rs1 e1
    have hl1 := hi1 _ _ _ _ _ _ e1
    split at h
    · rename_i e t2 p2 cs2 is2 rs2 e2
      split at h
      · rename_i t3 p3 cs3 rs3 e3
        cases h
        rw [List.map_append] at hi
        obtain ⟨ia, ic⟩ := List.append_inj hi (by rw [List.length_map]; exact hl1)
        have g1 := subR_ok hB (by omega) e1 (fun y hy => hr y (by simp [hy])) (fun y hy => hc y (by simp [hy])) ia
        have g2 := subR_ok hB hC e2 (fun y hy => hr y (by simp [hy])) (fun y hy => hc y (by simp [hy])) ic
        have g3 := mergeR_ok hB e3 (fun y hy => hr y (by simp [hy])) (fun y hy => hc y (by simp [hy]))
        obtain ⟨A', z, rfl⟩ : ∃ A' z, A = A' ++ [z] := ⟨A.dropLast, A.getLast (by intro e; rw [e] at hA; cases hA), (List.dropLast_concat_getLast _).symm⟩
        have hA' : A'.length = 16 := by rw [List.length_append, List.length_singleton] at hA; omega
        refine Gets.mono (n := (fu + (1 + (A' ++ [z]).length * pn) + 0) + ((fu + (1 + C.length * pn)) + ((2 * fu + (3 + 40 * mn)) + 0) + 0)) ?_ (ar2 fu _ _ (40 * mn) pn 0 (Nat.mul_le_mul_right pn (by omega)) (by rw [hA]))
        unfold dictDisplay
        refine Gets.bind (a := (some d, C.map (·.1))) (s1 := t1.abs) (q1 := p1) ?_ ?_
        · rw [show ((A' ++ [z] ++ C).map (·.1)) = (A'.map (·.1) ++ [z.1]) ++ C.map (·.1) by simp]
          rw [loop_two (fun z main run hr => ?_) (fun z run hr => ?_) (A'.map (·.1)) z.1 (C.map (·.1)) [] (by simp [hA']) (by simpa using hC2)]
          · refine Gets.bind (a := d) ?_ Gets.pure
            rw [List.nil_append]
            have e : (A' ++ [z]).map (·.1) = A'.map (·.1) ++ [z.1] := by simp
            rw [e] at g1
            exact g1
          · dsimp only [mkP]
            rw [if_neg (by rw [List.length_append, List.length_singleton, hr]; exact Bool.false_ne_true)]
          · dsimp only [mkP]
            rw [if_pos (by rw [List.length_append, List.length_singleton]; exact hr), if_neg (by simp)]
            simp only [bind_assoc, pure_bind]
        · dsimp only
          rw [if_neg (by cases C with
            | nil => simp at hC
            | cons => simp)]
          exact Gets.bind (a := some d) (Gets.bind (Gets.holding g2) (Gets.bind (Gets.onRaise (Gets.holding g3)) Gets.pure)) Gets.pure
      · cases h
    · cases h
  · cases h
end
end SH
set_option Elab.async false
set_option linter.all false
set_option maxRecDepth 100000
namespace SH
open PySem PySem.W PySem.Calls PyProof.Rows HandSHeadRun

section
variable (st : SharedT → Thread → Option (SharedT × Thread)) (n0 : Nat) (ann : Option Value)
/-- exactly so many steps, off the tree -/
def goK : Nat → SharedT → Thread → Option (SharedT × Thread)
  | 0, s, t => some (s, t)
  | m + 1, s, t => match through t with
    | true => none
    | false => match stepOk n0 ann t with
      | false => none
      | true => match st s t with
        | some (s', t') => frS s' fun s' => goK m s' t'
        | none => none
/-- a top with one such display -/
structure Top1 where
  env : Env
  b : List Stmt
  pre : List Stmt
  rest : List Stmt
  x : Str
  px : Pos
  dpos : Pos
  pos : Pos
  A : List (Pr × List Int)
  C : List (Pr × List Int)
  c : Code
abbrev B1 : List Frame := [topFrame default]
/-- the whole top's run: where it ends, the thread ahead of the body, what is to be compared -/
def topF (T : Top1) (p : Program) (K0 M1 M2 : Nat) (s : SharedT) : Option (SharedT × Thread × List Code × List Int × Flow × List Req) :=
  match goK st n0 ann K0 s (topStub p) with
  | some (sa, ta) => match segT st n0 ann 1 fu sa (blockOf T.b T.env T.c ta.pos B1) with
    | some (fb, sb, cb, qb) => match segT st n0 ann 1 M1 sb (piecesOf T.pre T.env T.c qb B1) with
      | some (.next, sp, cp, qp) => match displayR st n0 ann B1 T.c [] T.A T.C sp T.dpos with
        | some (d, s1, q1, cs, is, rs) => match pr st n0 ann B1 T.c (bindName T.env T.x (.ref d)) resU [] s1 T.px with
          | some (.next, s2, c2, q2) => match goF st n0 ann M2 s2 (restOf T.rest T.env T.c q2 B1) with
            | some s3 => some (s3, ta, cb :: cp :: c2 :: cs, is, fb, rs)
            | none => none
          | _ => none
        | none => none
      | _ => none
    | none => none
  | none => none
/-- the look-ups of the display alone -/
def reqsF (T : Top1) (p : Program) (K0 M1 : Nat) (s : SharedT) : Option (List Req) :=
  match goK st n0 ann K0 s (topStub p) with
  | some (sa, ta) => match segT st n0 ann 1 fu sa (blockOf T.b T.env T.c ta.pos B1) with
    | some (_, sb, _, qb) => match segT st n0 ann 1 M1 sb (piecesOf T.pre T.env T.c qb B1) with
      | some (.next, sp, _, _) => match displayR st n0 ann B1 T.c [] T.A T.C sp T.dpos with
        | some (_, _, _, _, _, rs) => some rs
        | none => none
      | _ => none
    | none => none
  | none => none
theorem reqsF_of {T : Top1} {p : Program} {K0 M1 M2 : Nat} {s s3 : SharedT} {ta : Thread} {cs : List Code} {is : List Int} {fl : Flow} {rs : List Req} (h : topF st n0 ann T p K0 M1 M2 s = some (s3, ta, cs, is, fl, rs)) : reqsF st n0 ann T p K0 M1 s = some rs := by
  unfold topF at h
  unfold reqsF
  split at h
  · rename_i sa ta' e1
    try rw [e1]
    try dsimp only
    split at h
    · rename_i fb sb cb qb e2
      try rw [e2]
      try dsimp only
      split at h
      · rename_i sp cp qp e3
        try rw [e3]
        try dsimp only
        split at h
        · rename_i d s1 q1 cs' is' rs' e4
          try rw [e4]
          try dsimp only
          split at h
          · split at h
            · cases h
              rfl
            · cases h
          · cases h
        · cases h
      · cases h
    · cases h
  · cases h
end
section
variable {p : Program} {w : World} {n0 : Nat} {ann : Option Value} {c : Code} {L : List Value}
theorem goK_ok : ∀ {m : Nat} {s s' : SharedT} {t t' : Thread}, goK (stepT (denote treeTable) p w) n0 ann m s t = some (s', t') → topGo treeTable p w n0 ann m s.abs t = some (s'.abs, t')
  | 0, _, _, _, _, h => by
    cases h
    rfl
  | m + 1, s, s', t, t', h => by
    unfold goK at h
    unfold topGo
    cases ht : through t with
    | true =>
      rw [ht] at h
      cases h
    | false =>
      rw [ht] at h
      cases hk : stepOk n0 ann t with
      | false =>
        rw [hk] at h
        cases h
      | true =>
        rw [hk] at h
        cases hs : stepT (denote treeTable) p w s t with
        | none =>
          rw [hs] at h
          cases h
        | some r =>
          obtain ⟨s2, t2⟩ := r
          rw [hs] at h
          have h3 : (frS s2 fun s' => goK (stepT (denote treeTable) p w) n0 ann m s' t2) = some (s', t') := h
          rw [frS_eq] at h3
          rw [stepT_spec hs]
          exact goK_ok h3
theorem Gets.at {q q' : Pos} {s : Shared} {B : List Frame} : Gets treeTable p w n0 ann B c L 1 (standAt q') s q () s q' :=
  Gets.step1 (y := (Pure.pure () : Sem Unit)) (n := 0) (fun _ _ => by simp only [standAt, Sem.wrap, through, Bool.and_false]) (fun _ _ => rfl) (fun _ _ => rfl) Gets.pure
theorem ev_zip {env : Env} {g : Sem Value → Sem Value} : ∀ (ks vs : List Expr) (hs : List (List Int)), ks.length = vs.length → hs.length = ks.length →
    (evalEachOpt (ks.map some) env).zip ((evalEach vs env).map g) = ((((ks.map fun k => eval k env).zip ((vs.map fun v => eval v env).map g)).zip hs).map (·.1)).map mkP
  | [], [], hs, _, _ => by
    cases hs <;> rfl
  | k :: ks, v :: vs, h :: hs, e1, e2 => by
    simp only [List.map_cons, evalEachOpt, evalOpt, evalEach, List.zip_cons_cons]
    rw [ev_zip ks vs hs (by simpa using e1) (by simpa using e2)]
  | [], v :: vs, _, e1, _ => by simp at e1
  | k :: ks, [], _, e1, _ => by simp at e1
  | k :: ks, v :: vs, [], _, e2 => by simp at e2
theorem piece_gets {n N : Nat} {s s' r : Shared} {st : Stmt} {rest : List Stmt} {env : Env} {q q' : Pos} {B : List Frame} (h : Gets treeTable p w n0 ann B c [] n (exec st env) s q .next s' q') (k : topRun treeTable p w n0 ann N s' (restOf rest env c q' B) = some r) : topRun treeTable p w n0 ann (n + N) s (restOf (st :: rest) env c q B) = some r := by
  unfold restOf
  rw [execs_cons_wrap]
  exact h (fun f => match f with | .next => (execs rest env).wrap doneF (leaveH env) id id | f => doneF f) (leaveH env) N r k
theorem pairsR_len {st : SharedT → Thread → Option (SharedT × Thread)} {B : List Frame} {d : Addr} : ∀ {l : List (Pr × List Int)} {s s1 : SharedT} {q q1 : Pos} {cs : List Code} {is : List Int} {rs : List Req}, pairsR st n0 ann B c d L l s q = some (s1, q1, cs, is, rs) → is.length = l.length
  | [], _, _, _, _, _, _, _, h => by
    cases h
    rfl
  | x :: l, _, _, _, _, _, _, _, h => by
    unfold pairsR at h
    split at h
    · split at h
      · rename_i e2
        cases h
        rw [List.length_cons, List.length_cons, pairsR_len e2]
      · cases h
    · cases h
theorem subR_len {st : SharedT → Thread → Option (SharedT × Thread)} {B : List Frame} {d : Addr} {l : List (Pr × List Int)} {s s1 : SharedT} {q q1 : Pos} {cs : List Code} {is : List Int} {rs : List Req} (h : subR st n0 ann B c L l s q = some (d, s1, q1, cs, is, rs)) : is.length = l.length := by
  unfold subR at h
  split at h
  · split at h
    · rename_i e2
      cases h
      exact pairsR_len e2
    · cases h
  · cases h
/-- what a top must be that topF is the run of it -/
structure Top1.Ok (T : Top1) (p : Program) (w : World) (ks vs : List Expr) (hs : List (List Int)) : Prop where
  body : T.b = T.pre ++ .Assign [.Name T.x T.px] (.Dict (ks.map some) vs T.dpos) T.pos :: T.rest
  swaps : swapsWith (.Dict (ks.map some) vs T.dpos) (some (.Name T.x T.px)) T.pos.line T.env = Pure.pure false
  lens : ks.length = vs.length ∧ hs.length = ks.length
  prs : T.A ++ T.C = ((ks.map fun k => eval k T.env).zip ((vs.map fun v => eval v T.env).map fun v => do let x ← v; standAt T.dpos; Pure.pure x)).zip hs
  lenA : T.A.length = 17
  lenC : T.C.length = 16
  code : T.c = .body T.b T.env
abbrev shn (M1 M2 : Nat) : Nat := fu + (M1 + ((1 + ((1 + dn) + (1 + (fu + 0)))) + M2))
theorem topF_ok {T : Top1} {ks vs : List Expr} {hs : List (List Int)} (O : T.Ok p w ks vs hs) {K0 M1 M2 : Nat} {s s3 : SharedT} {ta : Thread} {cs : List Code} {is : List Int} {rs : List Req}
    (h : topF (stepT (denote treeTable) p w) n0 ann T p K0 M1 M2 s = some (s3, ta, cs, is, .next, rs)) (hr : ∀ r ∈ rs, ReqOk (stepT (denote treeTable) p w) n0 ann B1 T.c r) (ht : ta = ⟨denote treeTable T.c, T.c, ta.pos, B1⟩) (hc : ∀ x ∈ cs, x = T.c) (hi : is = (T.A ++ T.C).map fun x => Builtin.Tuple.tupleHashOf x.2) :
    topRun treeTable p w n0 ann (K0 + shn M1 M2) s.abs (topStub p) = some s3.abs := by
  unfold topF at h
  split at h
  · rename_i sa ta' e1
    split at h
    · rename_i fb sb cb qb e2
      split at h
      · rename_i sp cp qp e3
        split at h
        · rename_i d s1 q1 cs' is' rs' e4
          split at h
          · rename_i s2 c2 q2 e5
            split at h
            · rename_i s3' e6
              cases h
              have hcb := hc cb (by simp)
              have hcp := hc cp (by simp)
              have hc2 := hc c2 (by simp)
              refine go_top (goK_ok e1) ?_
              rw [ht]
              have e0 : denote treeTable T.c = denote treeTable (.body T.b T.env) := by rw [← O.code]
              rw [e0]
              refine piece_block (segT_ok (s' := sb) (c := T.c) (q := qb) ?_) ?_
              · rw [e2, hcb]
              · rw [O.body]
                refine piece_app (segT_ok (s' := sp) (c := T.c) (q := qp) ?_) ?_
                · rw [e3, hcp]
                · refine piece_gets (q' := q2) ?_ (goF_ok e6)
                  rw [exec_Assign_Name _ _ _ _ _ O.swaps]
                  refine Gets.bind Gets.at ?_
                  refine Gets.bind (a := .ref d) (s1 := s1.abs) (q1 := q1) ?_ ?_
                  · show Gets treeTable p w n0 ann B1 T.c [] (1 + dn) (standAt T.dpos >>= fun _ => dictDisplay ((evalEachOpt (ks.map some) T.env).zip ((evalEach vs T.env).map fun v => do let x ← v; standAt T.dpos; Pure.pure x))) _ _ _ _ _
                    refine Gets.bind Gets.at ?_
                    rw [ev_zip ks vs hs O.lens.1 O.lens.2, ← O.prs]
                    refine displayR_ok rfl O.lenA (by rw [O.lenC]; decide) (by rw [O.lenC]; decide) e4 hr (fun y hy => hc y (by simp [hy])) hi fun _ _ _ _ _ _ z => subR_len z
                  · refine Gets.bind Gets.at ?_
                    exact Gets.bind (pr_ok (res := resU) (a := ()) rfl (fun _ h => resU_inj h) e5 hc2) Gets.pure
            · cases h
          · cases h
        · cases h
      · cases h
    · cases h
  · cases h
end
end SH
set_option Elab.async false
set_option linter.all false
set_option maxRecDepth 100000
namespace SH
open PySem PySem.W PySem.Calls PyProof.Rows HandSHeadRun

abbrev ROW : String := "special-get-raises"
def strH (w : World) (s : PySem.Str) : Int := if s.cps.isEmpty then 0 else reduceHash (w.params.strHash s.cps)
/-- the whole run, from the boot at w, by the steps at w' -/
noncomputable def endT (st : SharedT → Thread → Option (SharedT × Thread)) (T : Top1) (p : Program) (K0 M1 M2 : Nat) (w : World) (os : OsState) : Option (SharedT × Thread × List Code × List Int × Flow × List Req) := match putAll (boot_heap w.params).objs.toList .nil 0 with
  | some (t, n) => frNat n fun n0 => topF st n0 (bootAnn w) T p K0 M1 M2 (bootT w os (t, n0))
  | none => none
/-- the run's equation: T the top with its display, n the number of codes -/
def RunT (r : OpenRow) (q : Program) (H : Hook) (ob : SharedT → H.α) (T : World → Top1) (K0 M1 M2 n : Nat) (loose : List PySem.Str) (b : Bool) (w : World) : Prop :=
  ∀ os : OsState, (endT (stepQ (denQ tabQ) r.prog (w.withFollow ROW b)) (T w) r.prog K0 M1 M2 w os).map (fun z => (looksF r.prog (boot_heap w.params) z.1.abs, seenQ q loose (importedModules r.prog.main.body) (fun s => xlAt q [] s && recOk r.toRowW.records s) z.1.abs, ob z.1, (z.2.1.cur, z.2.1.code, z.2.1.stack), z.2.2.1, z.2.2.2.1, z.2.2.2.2.1)) =
    some (true, openGood q loose, H.val (w.withFollow ROW b), (denQ tabQ (T w).c, (T w).c, B1), List.replicate n (T w).c, ((T w).A ++ (T w).C).map (fun x => Builtin.Tuple.tupleHashOf x.2), .next)
/-- the look-ups in parts -/
def parts : List Nat → List Req → List (List Req)
  | [], rs => [rs]
  | m :: ms, rs => rs.take m :: parts ms (rs.drop m)
theorem parts_mem : ∀ {ms : List Nat} {rs : List Req} {r : Req}, r ∈ rs → ∃ i, i ≤ ms.length ∧ r ∈ (parts ms rs).getD i []
  | [], rs, r, h => ⟨0, Nat.le_refl _, h⟩
  | m :: ms, rs, r, h => by
    rw [← List.take_append_drop m rs] at h
    rcases List.mem_append.mp h with h | h
    · exact ⟨0, Nat.zero_le _, h⟩
    · obtain ⟨i, hi, e⟩ := parts_mem (ms := ms) h
      exact ⟨i + 1, Nat.succ_le_succ hi, e⟩
def okR (st : SharedT → Thread → Option (SharedT × Thread)) (n0 : Nat) (ann : Option Value) (c : Code) (r : Req) : List Code := match seekR st n0 ann B1 c r.d r.a r.L r.s r.q with
  | some cs => cs
  | none => [.builtin "none" {}]
noncomputable def chkE (st : SharedT → Thread → Option (SharedT × Thread)) (T : Top1) (p : Program) (K0 M1 : Nat) (ms : List Nat) (i : Nat) (w : World) (os : OsState) : Option (List Code) := match putAll (boot_heap w.params).objs.toList .nil 0 with
  | some (t, n) => frNat n fun n0 => match reqsF st n0 (bootAnn w) T p K0 M1 (bootT w os (t, n0)) with
    | some rs => some (((parts ms rs).getD i []).flatMap (okR st n0 (bootAnn w) T.c))
    | none => none
  | none => none
/-- a part of the look-ups, checked -/
def ChkT (p : Program) (T : World → Top1) (K0 M1 : Nat) (ms : List Nat) (i n : Nat) (b : Bool) (w : World) : Prop := ∀ os : OsState, chkE (stepQ (denQ tabQ) p (w.withFollow ROW b)) (T w) p K0 M1 ms i w os = some (List.replicate n (T w).c)
section
variable {p q : Program} {loose : List PySem.Str} {Xt : Shared → Bool} {α : Type} {Yf : Shared → α} {Ya : World → α} {K0 M1 M2 n N : Nat} {w w' : World} {T : Top1} {ks vs : List PySem.Expr} {hs : List (List Int)}
theorem boot_run {os : OsState} {s3 : SharedT} {ta : Thread} {cs : List Code} {is : List Int} {rs : List Req} {ms : List Nat} (O : T.Ok p w' ks vs hs) (h : endT (stepT (denote treeTable) p w') T p K0 M1 M2 w os = some (s3, ta, cs, is, .next, rs)) (chk : ∀ i, i ≤ ms.length → ∃ n, chkE (stepT (denote treeTable) p w') T p K0 M1 ms i w os = some (List.replicate n T.c)) (ht : ta = ⟨denote treeTable T.c, T.c, ta.pos, B1⟩) (hc : ∀ x ∈ cs, x = T.c) (hi : is = (T.A ++ T.C).map fun x => Builtin.Tuple.tupleHashOf x.2) :
    topRun treeTable p w' (boot_heap w.params).objs.size (bootAnn w) (K0 + shn M1 M2) ⟨boot_heap w.params, #[], boot_drawn, boot_toks, os⟩ (topStub p) = some s3.abs := by
  unfold endT at h
  cases e : putAll (boot_heap w.params).objs.toList .nil 0 with
  | none =>
    rw [e] at h
    cases h
  | some r =>
    obtain ⟨t, n⟩ := r
    rw [e] at h
    have h1 : (frNat n fun n0 => topF (stepT (denote treeTable) p w') n0 (bootAnn w) T p K0 M1 M2 (bootT w os (t, n0))) = some (s3, ta, cs, is, .next, rs) := h
    rw [frNat_eq] at h1
    have eh := putAll_heap e
    have en : (boot_heap w.params).objs.size = n := by
      rw [← eh]
      exact absHeap_size t n _
    have eb : (bootT w os (t, n)).abs = ⟨boot_heap w.params, #[], boot_drawn, boot_toks, os⟩ := by
      show (⟨absHeap t n (boot_heap w.params).life, #[], boot_drawn, boot_toks, os⟩ : Shared) = _
      rw [eh]
    rw [en, ← eb]
    refine topF_ok O h1 (fun r hr => ?_) ht hc hi
    obtain ⟨i, hi, hm⟩ := parts_mem (ms := ms) hr
    obtain ⟨k, hk⟩ := chk i hi
    unfold chkE at hk
    rw [e] at hk
    dsimp only at hk
    rw [frNat_eq, reqsF_of _ _ _ h1] at hk
    have hk2 := Option.some.inj hk
    have all : ∀ x ∈ okR (stepT (denote treeTable) p w') n (bootAnn w) T.c r, x = T.c := fun x hx => by
      have : x ∈ ((parts ms rs).getD i []).flatMap (okR (stepT (denote treeTable) p w') n (bootAnn w) T.c) := List.mem_flatMap.mpr ⟨r, hm, hx⟩
      rw [hk2] at this
      exact (List.mem_replicate.mp this).2
    unfold okR at all
    cases e5 : seekR (stepT (denote treeTable) p w') n (bootAnn w) B1 T.c r.d r.a r.L r.s r.q with
    | some cs5 =>
      rw [e5] at all
      exact ⟨cs5, e5, all⟩
    | none =>
      rw [e5] at all
      have := all (.builtin "none" {}) (by simp)
      rw [O.code] at this
      cases this
theorem from_run {os : OsState} {s3 : Shared} (run : topRun treeTable p w' (boot_heap w.params).objs.size (bootAnn w) M1 ⟨boot_heap w.params, #[], boot_drawn, boot_toks, os⟩ (topStub p) = some s3) (le : M1 ≤ N)
    (l1 : looksF p (boot_heap w.params) s3 = true) (l2 : openSeen q loose (importedModules p.main.body) Xt true s3 = openGood q loose) (l3 : Yf s3 = Ya w') :
    (topFrom treeTable p w' N ⟨boot_heap w.params, #[], boot_drawn, boot_toks, os⟩).map (fun s => (openSeen q loose (importedModules p.main.body) Xt true s, Yf s)) = some (openGood q loose, Ya w') := by
  have r := topRun_mono (N - M1) _ _ _ _ run
  rw [show M1 + (N - M1) = N by omega] at r
  have l1' : (staticsOk (importedModules p.main.body) (boot_heap w.params) s3.heap && namesBound p s3.heap && gensDone s3 && laidKept (boot_heap w.params) s3.heap) = true := l1
  unfold topFrom
  dsimp only
  rw [boot_ns]
  show ((((topRun treeTable p w' (boot_heap w.params).objs.size (bootAnn w) N ⟨boot_heap w.params, #[], boot_drawn, boot_toks, os⟩ (topStub p)).bind _) : Option Shared).map _) = _
  rw [r]
  show (Option.map _ (match staticsOk (importedModules p.main.body) (boot_heap w.params) s3.heap && namesBound p s3.heap && gensDone s3 && laidKept (boot_heap w.params) s3.heap with | true => some s3 | false => none)) = _
  rw [l1']
  exact congrArg some (Prod.ext l2 l3)
end
theorem head_sh {r : OpenRow} {q : Program} {H : Hook} {ob : SharedT → H.α} {T : World → Top1} {ks vs : List PySem.Expr} {hs : World → List (List Int)} {K0 M1 M2 n : Nat} {ms : List Nat} {loose : List PySem.Str} {d : DefRec} {kwd : List (PySem.Str × PySem.Expr)} (ho : ∀ s : SharedT, ob s = H.obs s.abs)
    (e : opening r.prog = plainProg r.prog.main.scope.names) (f : ∀ s, fenceModules? r.prog s = some s) (O : ∀ w w', (T w).Ok r.prog w' ks vs (hs w)) (run : ∀ b w, RunT r q H ob T K0 M1 M2 n loose b w) (chk : ∀ b w i, i ≤ ms.length → ∃ n, ChkT r.prog T K0 M1 ms i n b w)
    (hdef : defOf q r.name = some (d, kwd)) (hp : r.prog.theDef r.name = some (d.params, d.body, d.scope)) (hk : kwWritten? d.params.kwonlyargs d.params.kw_defaults = some kwd)
    (hwr : (!r.writes || r.records.isEmpty) = true) (k1 : r.wellSaid = true) (ok : (chainsOk q && opensWell r.prog && (frees r.toRowW && r.within.isEmpty)) = true) (hb : r.prog.bare) (hw : r.toRowW.promised)
    (call : WalkO q loose (XL q []) H.says r.toRowW d kwd fun f vs => PySem.call f vs) : r.Holds := by
  have half : ∀ (b : Bool) (w : World) (os : OsState), (topFrom treeTable r.prog (w.withFollow ROW b) (K0 + shn M1 M2 + 600) ⟨boot_heap w.params, #[], boot_drawn, boot_toks, os⟩).map (fun s => (openSeen q loose (importedModules r.prog.main.body) (fun s => xlAt q [] s && recOk r.toRowW.records s) true s, H.obs s)) = some (openGood q loose, H.val (w.withFollow ROW b)) := by
    intro b w os
    have z := run b w os
    rw [← stepQ_eq, ← denQ_eq, ← tabQ_eq] at z
    obtain ⟨⟨s3, ta, cs, is, fl, rs⟩, h1, h2⟩ := Option.map_eq_some_iff.mp z
    simp only [Prod.mk.injEq] at h2
    obtain ⟨l1, l2, l3, ⟨t1, t2, t3⟩, hcs, his, hfl⟩ := h2
    subst hfl
    obtain ⟨cur, code, pos, stack⟩ := ta
    dsimp only at t1 t2 t3
    subst t1 t2 t3
    have ck : ∀ i, i ≤ ms.length → ∃ n, chkE (stepT (denote treeTable) r.prog (w.withFollow ROW b)) (T w) r.prog K0 M1 ms i w os = some (List.replicate n (T w).c) := fun i hi => by
      obtain ⟨n, hn⟩ := chk b w i hi
      have h := hn os
      rw [← stepQ_eq, ← denQ_eq, ← tabQ_eq] at h
      exact ⟨n, h⟩
    refine from_run (boot_run (ms := ms) (O w _) h1 ck rfl (fun x hx => ?_) his) (by omega) l1 (by rw [seenQ_eq]; exact l2) (by rw [← ho]; exact l3)
    rw [hcs] at hx
    exact (List.mem_replicate.mp hx).2
  have left : LeftO r.prog q loose (fun s => xlAt q [] s && recOk r.toRowW.records s) H.obs H.val (K0 + shn M1 M2 + 600) true := LeftO.of_split ROW fun w => by
    obtain ⟨⟨h, gs, d, k, os⟩, a, a'⟩ := Option.map_eq_some_iff.mp (boot_open (N := K0 + shn M1 M2 + 600) e (Nat.ble_eq_true_of_le (by omega)) f w)
    obtain ⟨rfl, rfl, rfl, rfl⟩ : h = boot_heap w.params ∧ gs = Array.mk [] ∧ d = boot_drawn ∧ k = boot_toks := by simpa using a'
    rw [a]
    exact congrArg some (Prod.ext (half false w os) (half true w os))
  exact holds_open (r := r) (q := q) (loose := loose) (XP := XL q []) (YP := H.says) (d := d) (kwd := kwd) left H.of H.keeps (fun s z => xl_of s (Bool.and_eq_true_iff.mp z).1) XL.keeps hdef hp hk (fun s z => recFacts_of (Bool.and_eq_true_iff.mp z).2) hwr k1 ok hb hw call
end SH
set_option Elab.async false
set_option linter.all false
set_option maxRecDepth 100000
/-! such a top, of a program: the display is the i-th statement -/
noncomputable section
namespace SH
open PySem PySem.W PySem.Calls PyProof.Rows HandSHeadRun
def asgX : Stmt → PySem.Str
  | .Assign [.Name x _] _ _ => x
  | _ => ""
def asgP : Stmt → Pos
  | .Assign [.Name _ px] _ _ => px
  | _ => default
def asgQ : Stmt → Pos
  | .Assign _ _ pos => pos
  | _ => default
def asgD : Stmt → Pos
  | .Assign _ (.Dict _ _ d) _ => d
  | _ => default
def asgK : Stmt → List PySem.Expr
  | .Assign _ (.Dict ks _ _) _ => ks.filterMap id
  | _ => []
def asgV : Stmt → List PySem.Expr
  | .Assign _ (.Dict _ vs _) _ => vs
  | _ => []
def textOf : PySem.Expr → PySem.Str
  | .Constant (.str s) _ _ => s
  | _ => ""
def textsOf : PySem.Expr → List PySem.Str
  | .Tuple es _ _ => es.map textOf
  | _ => []
def hsOf (w : World) (ks : List PySem.Expr) : List (List Int) := ks.map fun k => (textsOf k).map (strH w)
def topEnv (p : Program) (code frame : Addr) : Env := { scope := p.main.scope, locals := mainNs, globals := mainNs, cells := [], code := .ref code, frame := some frame }
def prsOf (env : Env) (ks vs : List PySem.Expr) (d : Pos) (hs : List (List Int)) : List (Pr × List Int) := ((ks.map fun k => eval k env).zip ((vs.map fun v => eval v env).map fun v => do let x ← v; standAt d; Pure.pure x)).zip hs
/-- the top of p, its display at i -/
def topOf (p : Program) (i : Nat) (s : Stmt) (code frame : Addr) (w : World) : Top1 where
  env := topEnv p code frame
  b := behindTheImports p
  pre := (behindTheImports p).take i
  rest := (behindTheImports p).drop (i + 1)
  x := asgX s
  px := asgP s
  dpos := asgD s
  pos := asgQ s
  A := (prsOf (topEnv p code frame) (asgK s) (asgV s) (asgD s) (hsOf w (asgK s))).take 17
  C := (prsOf (topEnv p code frame) (asgK s) (asgV s) (asgD s) (hsOf w (asgK s))).drop 17
  c := .body (behindTheImports p) (topEnv p code frame)
theorem topOf_ok {p : Program} {i : Nat} {s : Stmt} {code frame : Addr} {w w' : World} (hs : behindTheImports p = (behindTheImports p).take i ++ s :: (behindTheImports p).drop (i + 1)) (he : s = .Assign [.Name (asgX s) (asgP s)] (.Dict ((asgK s).map some) (asgV s) (asgD s)) (asgQ s))
    (hw : swapsWith (.Dict ((asgK s).map some) (asgV s) (asgD s)) (some (.Name (asgX s) (asgP s))) (asgQ s).line (topEnv p code frame) = Pure.pure false) (hk : (asgK s).length = 33) (hv : (asgV s).length = 33) :
    (topOf p i s code frame w).Ok p w' (asgK s) (asgV s) (hsOf w (asgK s)) where
  body := by
    exact hs.trans (congrArg (fun z => (behindTheImports p).take i ++ z :: (behindTheImports p).drop (i + 1)) he)
  swaps := hw
  lens := ⟨by rw [hk, hv], by unfold hsOf; rw [List.length_map]⟩
  prs := List.take_append_drop _ _
  lenA := by
    show (List.take 17 (prsOf _ _ _ _ _)).length = 17
    rw [List.length_take]
    unfold prsOf hsOf
    simp [hk, hv]
  lenC := by
    show (List.drop 17 (prsOf _ _ _ _ _)).length = 16
    rw [List.length_drop]
    unfold prsOf hsOf
    simp [hk, hv]
  code := rfl
end SH
set_option Elab.async false
set_option linter.all false
set_option maxRecDepth 100000
namespace VI
open PySem PySem.Spec PyProof.Rows L2

/-! a dict at the module's top whose keys are tuples of texts, told by the head -/
def dictAt (g : Addr → Option Obj) (d : Addr) : List DictEntry := match g d with
  | some o => match o.data with
    | .dict es _ => es.toList
    | _ => []
  | none => []
/-- the frag, with the keys of the dict x -/
def asS (g : Addr → Option Obj) (n : Nat) (x : Str) : List Addr := He.asD g n ++ (dictAt g (He.ga (He.frG g (He.asD g n)) x)).flatMap fun e => He.refV e.key
def hashesOf (K : PySem.W.Frag) (x : Str) : List Int := (dictAt (fun a => List.lookup a K) (He.ga K x)).map (·.hash)
def hookS (n : Nat) (fa : List He.Fa) (fn : List He.DefD) (ex : PySem.W.Frag → Bool) (x : Str) (hv : World → List Int) : PySem.W.Hook where
  α := He.AlD × Bool × List Int
  obs := fun s => (He.obsD fa fn (He.frG s.heap.get? (asS s.heap.get? n x)), ex (He.frG s.heap.get? (asS s.heap.get? n x)), hashesOf (He.frG s.heap.get? (asS s.heap.get? n x)) x)
  val := fun w => (He.valD fn, true, hv w)
  says := fun w h => ∃ K : PySem.W.Frag, K.In h ∧ He.SaysD fa fn K ∧ ex K = true ∧ hashesOf K x = hv w
  of := fun _ _ e => ⟨_, He.frG_in, congrArg (fun z : He.AlD × Bool × List Int => z.1) e, congrArg (fun z : He.AlD × Bool × List Int => z.2.1) e, congrArg (fun z : He.AlD × Bool × List Int => z.2.2) e⟩
  keeps := fun _ _ _ ⟨K, hK, c⟩ k => ⟨K, PySem.W.Frag.In.keeps hK k, c⟩
def obsS (n : Nat) (fa : List He.Fa) (fn : List He.DefD) (ex : PySem.W.Frag → Bool) (x : Str) (g : Addr → Option Obj) : He.AlD × Bool × List Int := (He.obsD fa fn (He.frG g (asS g n x)), ex (He.frG g (asS g n x)), hashesOf (He.frG g (asS g n x)) x)
theorem obsS_eq {n : Nat} {fa : List He.Fa} {fn : List He.DefD} {ex : PySem.W.Frag → Bool} {x : Str} {hv : World → List Int} {g : Addr → Option Obj} {s : Shared} (h : ∀ a, g a = s.heap.get? a) : obsS n fa fn ex x g = (hookS n fa fn ex x hv).obs s := by
  have e : g = s.heap.get? := funext h
  rw [e] <;> rfl
def textsB : List Str → List Value → Bool
  | [], [] => true
  | x :: xs, .str y _ :: us => decide (y = x) && textsB xs us
  | _, _ => false
def keyB (K : PySem.W.Frag) (ks : List Str) (v : Value) : Bool := match v with
  | .ref a => match K.lookup a with
    | some o => match o.cls, o.data with
      | .type T, .seq its _ => decide (T = "tuple") && textsB ks its.toList
      | _, _ => false
    | none => false
  | _ => false
def entB (K : PySem.W.Frag) : List DictEntry → List (List Str × PyData) → Bool
  | [], [] => true
  | e :: es, z :: tab => keyB K z.1 e.key && (repB K z.2 e.val && entB K es tab)
  | _, _ => false
def dicB (K : PySem.W.Frag) (x : Str) (tab : List (List Str × PyData)) : Bool := match PySem.W.nsIn K mainGlobals x with
  | some (some (.ref d)) => match K.lookup d with
    | some o => match o.cls, o.dict, o.data with
      | .type T, none, .dict es _ => decide (T = "dict") && (o.slots.isEmpty && (entB K es.toList tab && decide ((tab.map (·.1)).Nodup)))
      | _, _, _ => false
    | none => false
  | _ => false
/-- the hashes of the written keys -/
def hvOf (w : World) (tab : List (List Str × PyData)) : List Int := tab.map fun z => SH.redH (Builtin.Tuple.tupleHashOf (z.1.map (SH.strH w)))
section
variable {P : Program} {w : World} {K : PySem.W.Frag} {h : Heap}
theorem hash_eq (ks : List Str) : SH.redH (Builtin.Tuple.tupleHashOf (ks.map (SH.strH w))) = tupleKeyHash (mixKind P w) (ks.map (Sum.inr (α := Int))) := by
  unfold tupleKeyHash
  have e : (ks.map (Sum.inr (α := Int))).map (mixKind P w).hash = ks.map (SH.strH w) := by
    rw [List.map_map]
    exact List.map_congr_left fun a _ => rfl
  rw [e]
  unfold reduceHash
  rw [if_pos (by obtain ⟨h1, h2⟩ := SH.tupleHash_range (ks.map (SH.strH w)); simp only [Bool.and_eq_true, decide_eq_true_eq]; exact ⟨h1, h2⟩)]
  rfl
theorem textsB_ok : ∀ {ks : List Str} {us : List Value}, textsB ks us = true → ItemsAre (mixKind P w) (ks.map (Sum.inr (α := Int))) us
  | [], [], _ => .nil
  | [], _ :: _, h => by simp [textsB] at h
  | x :: xs, [], h => by simp [textsB] at h
  | x :: xs, u :: us, h => by
    cases u with
    | str y t =>
      rw [textsB] at h
      obtain ⟨h1, h2⟩ := He.ba h
      have e := of_decide_eq_true h1
      subst e
      exact .cons (by show Value.isStrOf y (.str y t) = true; simp [Value.isStrOf]) (textsB_ok h2)
    | _ => simp [textsB] at h
theorem keyB_ok {ks : List Str} {v : Value} (e : keyB K ks v = true) : ∃ a, v = .ref a ∧ ∀ h : Heap, K.In h → (tupleKind (mixKind P w)).is h (ks.map (Sum.inr (α := Int))) a := by
  unfold keyB at e
  split at e
  · rename_i a
    split at e
    · rename_i o ho
      split at e
      · rename_i T its n hc hd
        obtain ⟨h1, h2⟩ := He.ba e
        have e1 := of_decide_eq_true h1
        subst e1
        exact ⟨a, rfl, fun h X => ⟨o, its, n, X _ _ ho, hc, hd, textsB_ok h2⟩⟩
      · cases e
    · cases e
  · cases e
theorem inr_inj : ∀ {a b : List Str}, a.map (Sum.inr (α := Int)) = b.map Sum.inr → a = b
  | [], [], _ => rfl
  | [], _ :: _, h => by simp at h
  | _ :: _, [], h => by simp at h
  | a :: l, b :: m, h => by
    rw [List.map_cons, List.map_cons] at h
    obtain ⟨h1, h2⟩ := List.cons.inj h
    rw [Sum.inr.inj h1, inr_inj h2]
theorem entB_ok : ∀ {es : List DictEntry} {tab : List (List Str × PyData)}, entB K es tab = true → es.map (·.hash) = hvOf w tab →
    ∃ xs : List (List Key × Addr × Value), es = xs.map (entryOfKey (tupleKind (mixKind P w))) ∧ xs.map (·.1) = tab.map (fun z => z.1.map (Sum.inr (α := Int))) ∧ (∀ h : Heap, K.In h → ∀ x ∈ xs, (tupleKind (mixKind P w)).is h x.1 x.2.1) ∧
      ∀ ks pd, tab.lookup ks = some pd → ∃ p, atKey xs (ks.map Sum.inr) = some p ∧ ∃ v, RelV v p.2 ∧ ∀ η H, RepD K η H pd v
  | [], [], _, _ => ⟨[], rfl, rfl, fun _ _ x hx => absurd hx (by simp), fun ks pd e => by cases e⟩
  | [], _ :: _, h, _ => by simp [entB] at h
  | _ :: _, [], h, _ => by simp [entB] at h
  | e :: es, z :: tab, h, hh => by
    rw [entB] at h
    obtain ⟨h1, h2⟩ := He.ba h
    obtain ⟨h2, h3⟩ := He.ba h2
    unfold hvOf at hh
    rw [List.map_cons, List.map_cons] at hh
    obtain ⟨hh1, hh2⟩ := List.cons.inj hh
    obtain ⟨a, ea, hk⟩ := keyB_ok (P := P) (w := w) h1
    obtain ⟨v, rv, rd⟩ := repB_ok _ _ h2
    obtain ⟨xs, x1, x2, x3, x4⟩ := entB_ok h3 hh2
    obtain ⟨eh, ek, ev⟩ := e
    dsimp only at ea hh1 rv
    subst ea
    refine ⟨(z.1.map Sum.inr, a, ev) :: xs, ?_, ?_, ?_, ?_⟩
    · rw [List.map_cons, ← x1]
      congr 1
      show (⟨eh, .ref a, ev⟩ : DictEntry) = ⟨tupleKeyHash (mixKind P w) (z.1.map Sum.inr), .ref a, ev⟩
      rw [hh1, hash_eq (P := P)]
    · rw [List.map_cons, List.map_cons, x2]
    · intro h X x hx
      rcases List.mem_cons.mp hx with rfl | hx
      · exact hk h X
      · exact x3 h X x hx
    · intro ks pd el
      obtain ⟨zk, zd⟩ := z
      rw [List.lookup_cons] at el
      have inj : (zk.map (Sum.inr (α := Int)) = ks.map Sum.inr) ↔ zk = ks := by
        constructor
        · intro q
          exact inr_inj q
        · rintro rfl
          rfl
      cases q : (ks == zk) with
      | true =>
        rw [q] at el
        have eq : ks = zk := eq_of_beq q
        cases el
        refine ⟨(a, ev), ?_, v, rv, rd⟩
        unfold atKey
        rw [List.find?_cons_of_pos (by simp [eq])]
        rfl
      | false =>
        rw [q] at el
        obtain ⟨p, p1, p2⟩ := x4 ks pd el
        refine ⟨p, ?_, p2⟩
        unfold atKey at p1 ⊢
        rw [List.find?_cons_of_neg (by
          simp only [decide_eq_true_eq]
          intro q2
          rw [inj] at q2
          rw [q2, beq_self_eq_true] at q
          cases q)]
        exact p1
theorem nodup_map {α β : Type} {f : α → β} (hf : ∀ a b, f a = f b → a = b) : ∀ {l : List α}, l.Nodup → (l.map f).Nodup
  | [], _ => List.nodup_nil
  | a :: l, h => by
    obtain ⟨h1, h2⟩ := List.nodup_cons.mp h
    rw [List.map_cons, List.nodup_cons]
    refine ⟨fun q => ?_, nodup_map hf h2⟩
    obtain ⟨b, hb, e⟩ := List.mem_map.mp q
    rw [hf b a e] at hb
    exact h1 hb
theorem dicB_ok {mg : Str → Option Value} {x : Str} {tab : List (List Str × PyData)} (X : K.In h) (G : h.Ns mainGlobals mg) (c : dicB K x tab = true) (hs : hashesOf K x = hvOf w tab) : KDic P w K mg x tab := by
  unfold dicB at c
  split at c
  · rename_i d e
    split at c
    · rename_i o ho
      split at c
      · rename_i T es ep hc hdd hd
        obtain ⟨c1, c⟩ := He.ba c
        obtain ⟨c2, c⟩ := He.ba c
        obtain ⟨c3, c4⟩ := He.ba c
        have e1 := of_decide_eq_true c1
        subst e1
        have hga : He.ga K x = d := by
          unfold He.ga
          rw [e]
        have hs' : es.toList.map (·.hash) = hvOf w tab := by
          unfold hashesOf dictAt at hs
          dsimp only at hs
          rw [hga, ho] at hs
          dsimp only at hs
          rw [hd] at hs
          exact hs
        obtain ⟨xs, x1, x2, x3, x4⟩ := entB_ok (P := P) (w := w) c3 hs'
        refine ⟨d, xs, PySem.W.mg_of X G e, fun h' X' => ⟨o, es, ep, X' _ _ ho, ⟨hc, hdd, Array.isEmpty_iff.mp c2⟩, hd, x1, x3 h' X', ?_⟩, x4⟩
        rw [x2]
        have n := of_decide_eq_true c4
        have e3 : tab.map (fun z => z.1.map (Sum.inr (α := Int) (β := Str))) = (tab.map (·.1)).map (List.map Sum.inr) := by rw [List.map_map]; rfl
        rw [e3]
        exact nodup_map (fun _ _ q => inr_inj q) n
      · cases c
    · cases c
  · cases c
end
end VI
set_option Elab.async false
set_option linter.all false
set_option maxRecDepth 100000
set_option maxHeartbeats 0
namespace VI
open PySem PySem.Spec PyProof.Rows L2
abbrev RR : PySem.W.OpenRow := PySem.W.OpenLaw.row PySem.Challenge.rw_kindsworn_k04_whole_places_and_parts
def dfn (x : Str) (st : Stmt) : He.DefD := ⟨(x, none), x, x, defArgs st, defBody st, defScope st, [], []⟩
def clsSt (i j : Nat) : Stmt := match topS i with
  | .ClassDef _ _ _ b _ _ _ _ _ _ _ => b.getD j (.Pass ⟨0, 0, 0, 0⟩)
  | s => s
def fns : List He.DefD := [dfn "standing" st0, dfn "refilled" st1, dfn "inner" st2, dfn "with_inner" st3, dfn "every" st4, dfn "parts_of" st5, dfn "with_parts" st6, dfn "places_of" st7, dfn "size_of" st8, dfn "part_at" st9, dfn "with_part" st10, dfn "_law_bag" st11, dfn "_law_take" st12, dfn "_law_some" st13, dfn "_law_mixed" st14, dfn "_law_alike" st15, dfn "_law_parts" st16, dfn "_law_size" st17, dfn "_law_with_parts" st18, dfn "_law_places" st19, dfn "_law_at" st20, dfn "_law_put_at" st21, dfn "_law_any_name" st22, dfn "_law_any_small" st23, dfn "_law_any_maker" st24, dfn "_law_any_labels" st25, dfn "_law_any_number" st26, dfn "_law_any_pattern" st27, dfn "_law_any_fn" st28, dfn "_law_any_rows" st29, dfn "_law_any_term" st30, dfn "_law_some_term" st31, dfn "_law_is_put_right" st32, dfn "_law_is_plain" st33, dfn "law" st34]
def fas : List He.Fa := [.glo "standing", .glo "refilled", .glo "inner", .glo "with_inner", .glo "every", .glo "parts_of", .glo "with_parts", .glo "places_of", .glo "size_of", .glo "part_at", .glo "with_part", .glo "_law_bag", .glo "_law_take", .glo "_law_some", .glo "_law_mixed", .glo "_law_alike", .glo "_law_parts", .glo "_law_size", .glo "_law_with_parts", .glo "_law_places", .glo "_law_at", .glo "_law_put_at", .glo "_law_any_name", .glo "_law_any_small", .glo "_law_any_maker", .glo "_law_any_labels", .glo "_law_any_number", .glo "_law_any_pattern", .glo "_law_any_fn", .glo "_law_any_rows", .glo "_law_any_term", .glo "_law_some_term", .glo "_law_is_put_right", .glo "_law_is_plain", .glo "law", .free "abs", .free "enumerate", .free "int", .free "len", .free "list", .free "max", .free "range", .free "repr", .free "sorted", .free "sum", .free "tuple", .free "zip"]
def exL (K : PySem.W.Frag) : List Bool := [dicB K "SHAPES" k_SHAPES, conB K "PAIRED" k_PAIRED]
def exs (K : PySem.W.Frag) : Bool := (exL K).all id
abbrev hk : PySem.W.Hook := hookS 6 fas fns exs "SHAPES" (fun w => hvOf w k_SHAPES)
def ob (s : PySem.W.SharedT) : He.AlD × Bool × List Int := obsS 6 fas fns exs "SHAPES" (HandSHeadRun.getT s)
theorem ob_eq (s : PySem.W.SharedT) : ob s = hk.obs s.abs := obsS_eq (HandSHeadRun.getT_eq s)
def loose0 : List PySem.Str := ["SHAPES", "PAIRED", "standing", "refilled", "inner", "with_inner", "every", "parts_of", "with_parts", "places_of", "size_of", "part_at", "with_part", "_law_bag", "_law_take"]
def loose1 : List PySem.Str := ["_law_some", "_law_mixed", "_law_alike", "_law_parts", "_law_size", "_law_with_parts", "_law_places", "_law_at", "_law_put_at", "_law_any_name", "_law_any_small", "_law_any_maker", "_law_any_labels", "_law_any_number", "_law_any_pattern"]
def loose2 : List PySem.Str := ["_law_any_fn", "_law_any_rows", "_law_any_term", "_law_some_term", "_law_is_put_right", "_law_is_plain"]
def loose : List PySem.Str := loose0 ++ (loose1 ++ (loose2))
def sS : Stmt := (PySem.W.behindTheImports RR.prog).getD 1 (.Pass default)
noncomputable def TT (w : World) : SH.Top1 := SH.topOf RR.prog 1 sS 13 14 w
theorem oks (w w' : World) : (TT w).Ok RR.prog w' (SH.asgK sS) (SH.asgV sS) (SH.hsOf w (SH.asgK sS)) := SH.topOf_ok (by kernel_rfl) (by kernel_rfl) (by kernel_rfl) (by kernel_rfl) (by kernel_rfl)
theorem runf (w : World) : SH.RunT RR (PySem.W.view RR.prog [39]) hk ob TT 12 400 8000 254 loose false w := by
  intro os
  kernel_rfl
theorem chkf0 (w : World) : SH.ChkT RR.prog TT 12 400 [17, 16, 8] 0 289 false w := by
  intro os
  kernel_rfl
theorem chkf1 (w : World) : SH.ChkT RR.prog TT 12 400 [17, 16, 8] 1 256 false w := by
  intro os
  kernel_rfl
theorem chkf2 (w : World) : SH.ChkT RR.prog TT 12 400 [17, 16, 8] 2 336 false w := by
  intro os
  kernel_rfl
theorem chkf3 (w : World) : SH.ChkT RR.prog TT 12 400 [17, 16, 8] 3 464 false w := by
  intro os
  kernel_rfl
theorem runt (w : World) : SH.RunT RR (PySem.W.view RR.prog [39]) hk ob TT 12 400 8000 254 loose true w := by
  intro os
  kernel_rfl
theorem chkt0 (w : World) : SH.ChkT RR.prog TT 12 400 [17, 16, 8] 0 289 true w := by
  intro os
  kernel_rfl
theorem chkt1 (w : World) : SH.ChkT RR.prog TT 12 400 [17, 16, 8] 1 256 true w := by
  intro os
  kernel_rfl
theorem chkt2 (w : World) : SH.ChkT RR.prog TT 12 400 [17, 16, 8] 2 336 true w := by
  intro os
  kernel_rfl
theorem chkt3 (w : World) : SH.ChkT RR.prog TT 12 400 [17, 16, 8] 3 464 true w := by
  intro os
  kernel_rfl
theorem runs (b : Bool) (w : World) : SH.RunT RR (PySem.W.view RR.prog [39]) hk ob TT 12 400 8000 254 loose b w := match b with
  | false => runf w
  | true => runt w
theorem chks (b : Bool) (w : World) (i : Nat) (hi : i ≤ [17, 16, 8].length) : ∃ n, SH.ChkT RR.prog TT 12 400 [17, 16, 8] i n b w := match b, i, hi with
  | false, 0, _ => ⟨_, chkf0 w⟩
  | false, 1, _ => ⟨_, chkf1 w⟩
  | false, 2, _ => ⟨_, chkf2 w⟩
  | false, 3, _ => ⟨_, chkf3 w⟩
  | true, 0, _ => ⟨_, chkt0 w⟩
  | true, 1, _ => ⟨_, chkt1 w⟩
  | true, 2, _ => ⟨_, chkt2 w⟩
  | true, 3, _ => ⟨_, chkt3 w⟩
  | _, n + 4, h => absurd h (by show ¬ (n + 4 ≤ 3); omega)
/-! what the defs are told -/
def ctK (K : PySem.W.Frag) : Nat → Option Addr
  | _ => none
section
variable {P : Program} {w : World} {K : PySem.W.Frag} {h : Heap} {mg : Str → Option Value}
theorem facts (X : K.In h) (G : h.Ns mainGlobals mg) (S : He.SaysD fas fns K) (e : exs K = true) (hs : hashesOf K "SHAPES" = hvOf w k_SHAPES) : Facts P w K mg (ctK K) where
  a0 := defAt_of X G (S.fact 0) (S.def_ 0)
  a1 := defAt_of X G (S.fact 1) (S.def_ 1)
  a2 := defAt_of X G (S.fact 2) (S.def_ 2)
  a3 := defAt_of X G (S.fact 3) (S.def_ 3)
  a4 := defAt_of X G (S.fact 4) (S.def_ 4)
  a5 := defAt_of X G (S.fact 5) (S.def_ 5)
  a6 := defAt_of X G (S.fact 6) (S.def_ 6)
  a7 := defAt_of X G (S.fact 7) (S.def_ 7)
  a8 := defAt_of X G (S.fact 8) (S.def_ 8)
  a9 := defAt_of X G (S.fact 9) (S.def_ 9)
  a10 := defAt_of X G (S.fact 10) (S.def_ 10)
  a11 := defAt_of X G (S.fact 11) (S.def_ 11)
  a12 := defAt_of X G (S.fact 12) (S.def_ 12)
  a13 := defAt_of X G (S.fact 13) (S.def_ 13)
  a14 := defAt_of X G (S.fact 14) (S.def_ 14)
  a15 := defAt_of X G (S.fact 15) (S.def_ 15)
  a16 := defAt_of X G (S.fact 16) (S.def_ 16)
  a17 := defAt_of X G (S.fact 17) (S.def_ 17)
  a18 := defAt_of X G (S.fact 18) (S.def_ 18)
  a19 := defAt_of X G (S.fact 19) (S.def_ 19)
  a20 := defAt_of X G (S.fact 20) (S.def_ 20)
  a21 := defAt_of X G (S.fact 21) (S.def_ 21)
  a22 := defAt_of X G (S.fact 22) (S.def_ 22)
  a23 := defAt_of X G (S.fact 23) (S.def_ 23)
  a24 := defAt_of X G (S.fact 24) (S.def_ 24)
  a25 := defAt_of X G (S.fact 25) (S.def_ 25)
  a26 := defAt_of X G (S.fact 26) (S.def_ 26)
  a27 := defAt_of X G (S.fact 27) (S.def_ 27)
  a28 := defAt_of X G (S.fact 28) (S.def_ 28)
  a29 := defAt_of X G (S.fact 29) (S.def_ 29)
  a30 := defAt_of X G (S.fact 30) (S.def_ 30)
  a31 := defAt_of X G (S.fact 31) (S.def_ 31)
  a32 := defAt_of X G (S.fact 32) (S.def_ 32)
  a33 := defAt_of X G (S.fact 33) (S.def_ 33)
  a34 := defAt_of X G (S.fact 34) (S.def_ 34)
  c_PAIRED := conB_ok X G (all_at (l := exL K) e 1)
  c_SHAPES := dicB_ok X G (all_at (l := exL K) e 0) hs
  b_abs := He.free_ok X G (S.fact 35)
  b_enumerate := He.free_ok X G (S.fact 36)
  b_int := He.free_ok X G (S.fact 37)
  b_len := He.free_ok X G (S.fact 38)
  b_list := He.free_ok X G (S.fact 39)
  b_max := He.free_ok X G (S.fact 40)
  b_range := He.free_ok X G (S.fact 41)
  b_repr := He.free_ok X G (S.fact 42)
  b_sorted := He.free_ok X G (S.fact 43)
  b_sum := He.free_ok X G (S.fact 44)
  b_tuple := He.free_ok X G (S.fact 45)
  b_zip := He.free_ok X G (S.fact 46)
end
end VI
set_option Elab.async false
set_option linter.all false
set_option maxRecDepth 100000
set_option maxHeartbeats 0
namespace VI
open PySem PySem.Spec PyProof.Rows L2
abbrev fuel : Nat := 40
end VI
open PySem PySem.W PySem.Calls PyProof.Rows
theorem holds_of (good : ∀ ns : List Int, ns.length ≤ 63 → (∀ z ∈ ns, Builtin.Int.intBits z ≤ 1048576) → ∃ S', VI.callN (VI.fuel + 1) 34 [VI.scriptW ns] [] = .ok (.d (.bool true)) S') : PySem.Challenge.rw_kindsworn_k04_whole_places_and_parts.Holds := by
  w_on; o_law
  refine SH.head_sh (r := OpenLaw.row PySem.Challenge.rw_kindsworn_k04_whole_places_and_parts) (q := view (OpenLaw.row PySem.Challenge.rw_kindsworn_k04_whole_places_and_parts).prog [39]) (H := VI.hk) (ob := VI.ob) (T := VI.TT) (ks := SH.asgK VI.sS) (vs := SH.asgV VI.sS) (hs := fun w => SH.hsOf w (SH.asgK VI.sS)) (K0 := 12) (M1 := 400) (M2 := 8000) (n := 254) (ms := [17, 16, 8]) (loose := VI.loose) (d := HandSHeadRun.topDef (OpenLaw.row PySem.Challenge.rw_kindsworn_k04_whole_places_and_parts).prog 39) (kwd := []) VI.ob_eq
    (by kernel_rfl) (fun s => by kernel_rfl) VI.oks VI.runs VI.chks (by kernel_rfl) (by kernel_rfl) (by kernel_rfl) (by rfl) (by first | assumption | decide +kernel) (by decide +kernel) ⟨rfl, rfl, rfl, rfl, rfl, by decide +kernel⟩ ?hw ?hc
  case hw => w_witness2
  case hc =>
    refine VI.walk_K (l := PySem.Challenge.rw_kindsworn_k04_whole_places_and_parts) (n := 63) (k := VI.fuel + 1) (x := "script") (g := VI.callN (VI.fuel + 1) 34) rfl (by decide) (by kernel_rfl) ⟨rfl, by decide, by decide⟩ ?F good
    intro w mg fa h Y G hmg0
    obtain ⟨K, KX, S, e, hs⟩ := Y
    have hmg : mg ("law" : PySem.Str) = some (.ref fa) := by
      have e : (HandSHeadRun.topDef (OpenLaw.row PySem.Challenge.rw_kindsworn_k04_whole_places_and_parts).prog 39).name = ("law" : PySem.Str) := by kernel_rfl
      rw [← e]
      exact hmg0
    have F : VI.Facts (PySem.Challenge.rw_kindsworn_k04_whole_places_and_parts).prog w K mg (VI.ctK K) := VI.facts KX G S e hs
    obtain ⟨fd, hb, hF⟩ := VI.law_of (P := (PySem.Challenge.rw_kindsworn_k04_whole_places_and_parts).prog) (w := w) (g := VI.callN (VI.fuel + 1) 34) F.a34 VI.bn34 hmg VI.sc34 (fun _ _ => rfl) fun base _ _ _ _ _ _ _ r gd => VI.d34 (VI.tab_all (base := base) F VI.fuel) r gd
    exact ⟨K, VI.ctK K, fd, KX, hb, fun base _ _ => hF base⟩
open PySem PySem.W PyProof.Rows
set_option Elab.async false
set_option maxRecDepth 100000 in
set_option maxHeartbeats 0 in
theorem PySem.Challenge.cw_kindsworn_k04_whole_places_and_parts_holds : PySem.Challenge.rw_kindsworn_k04_whole_places_and_parts.Holds := by
  exact holds_of VI.P4.good04
