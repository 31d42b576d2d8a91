import PyProof.Rows.All
import Wide.All
import OpenK.AllK
import Wide.FinOn
import HandS.ForMost
import HandS.ExcInit
import HandS.ExcIs
import HandS.IsInst
import HandS.TupAny
import HandS.Wide
import HandS.Zip
import KE.GoesNew
import KE.GoesMore
import HandS.Comp
import HandS.More
import HandS.Style
import HandS.HeadEnd
import HandS.EndBits
import HandS.Defaults
import HandS.Head0
import HandS.Head1
import HandS.Head2
import HandS.HeadHook1
import HandS.HeadHook2
import HandS.Text
import HandS.ExcOwn
import HandS.WordsExc
import HandS.TryMany
import HandS.ExcField
import HandS.Dict
import PyProof.TupleOfStr
import PyProof.StrBlock2
import HandS.Codes
import PySem.Challenge.RW_kindsworn_k06_words_of_texts
set_option Elab.async false
set_option linter.all false
set_option maxRecDepth 100000
namespace VI
open PySem PySem.Spec PyProof.Rows L2

/-! values: pure data; a live list or dict of the store; a tuple that holds live ones -/
inductive W where
  | d (x : PyData)
  | loc (l : Nat)
  | tp (xs : List W)
  | fro (xs : List PyData)
/-- a live object -/
inductive SO where
  | lst (xs : List PyData)
  | dK (kvs : List (Key × PyData))
  | dT (kvs : List (List Key × PyData))
abbrev Store := List SO
abbrev Rho := List (Option W)
inductive R (α : Type) where
  | ok (a : α) (S : Store)
  | exc (c : Nat) (fs : List (Str × W)) (S : Store)
  | bad
def R.bind {α β : Type} (r : R α) (k : α → Store → R β) : R β :=
  match r with
  | .ok a S => k a S
  | .exc c fs S => .exc c fs S
  | .bad => .bad
abbrev O := Option (W × Store)
def lift (o : O) : R W :=
  match o with
  | some (w, S) => .ok w S
  | none => .bad

/-! what stands for what -/
/-- a list that is only read: frozen, or one of the module -/
def SqF (K : PySem.W.Frag) (H : Hp) (a : Addr) (xs : List V) : Prop :=
  (∃ o, H a = some (.frz o (.lst xs))) ∨
    ∃ (o : Obj) (its : Array Value) (n : Nat), K.lookup a = some o ∧ o.cls = .type "list" ∧ o.dict = none ∧ o.data = .seq its n ∧ its.size ≤ sizeLine ∧ Vals xs its.toList
theorem SqF.seq {K : PySem.W.Frag} {H : Hp} {a : Addr} {xs : List V} (h : SqF K H a xs) : SqL K H a xs := by
  rcases h with ⟨o, h⟩ | h
  · exact .inl (.inr ⟨o, h⟩)
  · exact .inr h
def tys : List String := ["NoneType", "bool", "int", "str", "list", "tuple", "dict"]
/-- a class of the module's own over the exceptions, no built-in type being above it but these -/
structure OwnT (K : PySem.W.Frag) (C : Addr) : Prop where
  exc : L2.ExcC K C
  not : ∀ T ∈ tys, PySem.W.kitOne K (.ref C) (.type T) = some false
mutual
inductive RepD (K : PySem.W.Frag) (η : List Addr) (H : Hp) : PyData → V → Prop
  | none : RepD K η H .none .non
  | bool (b : Bool) : RepD K η H (.bool b) (.bl b)
  | int (i : Int) : RepD K η H (.int i) (.int i)
  | str (x : Str) : RepD K η H (.str x) (.str x)
  | list {a : Addr} {vs : List V} {ds : List PyData} : H a = some (.lst vs) → a ∉ η → RepDs K η H ds vs → RepD K η H (.list ds) (.ref a)
  | tuple {a : Addr} {vs : List V} {ds : List PyData} : SqT K H a vs → RepDs K η H ds vs → RepD K η H (.tuple ds) (.ref a)
  | dct {a : Addr} {kvs : List (Key × V)} : H a = some (.dK kvs) → a ∉ η → RepD K η H (.dict []) (.ref a)
  | own {a C : Addr} : H a = some (exo a C none) → a ∉ η → OwnT K C → RepD K η H (.dict [(.none, .none)]) (.ref a)
inductive RepDs (K : PySem.W.Frag) (η : List Addr) (H : Hp) : List PyData → List V → Prop
  | nil : RepDs K η H [] []
  | cons {d : PyData} {ds : List PyData} {v : V} {vs : List V} : RepD K η H d v → RepDs K η H ds vs → RepDs K η H (d :: ds) (v :: vs)
end
mutual
inductive RepW (K : PySem.W.Frag) (η : List Addr) (H : Hp) : W → V → Prop
  | d {x : PyData} {v : V} : RepD K η H x v → RepW K η H (.d x) v
  | loc {l : Nat} {a : Addr} : η[l]? = some a → RepW K η H (.loc l) (.ref a)
  | tp {a : Addr} {vs : List V} {ws : List W} : SqT K H a vs → RepWs K η H ws vs → RepW K η H (.tp ws) (.ref a)
  | fro {a : Addr} {vs : List V} {ds : List PyData} : SqF K H a vs → RepDs K η H ds vs → RepW K η H (.fro ds) (.ref a)
inductive RepWs (K : PySem.W.Frag) (η : List Addr) (H : Hp) : List W → List V → Prop
  | nil : RepWs K η H [] []
  | cons {w : W} {ws : List W} {v : V} {vs : List V} : RepW K η H w v → RepWs K η H ws vs → RepWs K η H (w :: ws) (v :: vs)
end
/-- what comes later: more live objects, and nothing but live ones changed -/
structure Fu (η : List Addr) (H : Hp) (η' : List Addr) (H' : Hp) : Prop where
  px : ∃ r, η' = η ++ r
  nw : ∀ a ∈ η', a ∈ η ∨ H a = none
  tk : ∀ a, H' a = none → H a = none
  tp : ∀ a xs, H a = some (.tup xs) → H' a = some (.tup xs)
  fz : ∀ a o u, H a = some (.frz o u) → H' a = some (.frz o u)
  ls : ∀ a o, a ∉ η → H a = some o → H' a = some o
theorem Fu.refl (η : List Addr) (H : Hp) : Fu η H η H := ⟨⟨[], by simp⟩, fun a h => .inl h, fun _ h => h, fun _ _ h => h, fun _ _ _ h => h, fun _ _ _ h => h⟩
section
variable {K : PySem.W.Frag} {η η' η2 : List Addr} {H H' H2 : Hp}
theorem Fu.out (f : Fu η H η' H') {a : Addr} {o : HO} (h : a ∉ η) (e : H a = some o) : a ∉ η' := fun m => by
  rcases f.nw a m with z | z
  · exact h z
  · rw [z] at e; cases e
theorem Fu.trans (f : Fu η H η' H') (g : Fu η' H' η2 H2) : Fu η H η2 H2 := by
  obtain ⟨r, e⟩ := f.px
  obtain ⟨r2, e2⟩ := g.px
  refine ⟨⟨r ++ r2, by rw [e2, e, List.append_assoc]⟩, fun a m => ?_, fun a h => f.tk a (g.tk a h), fun a xs h => g.tp a xs (f.tp a xs h), fun a o u h => g.fz a o u (f.fz a o u h), fun a xs n h => g.ls a xs (f.out n h) (f.ls a xs n h)⟩
  rcases g.nw a m with z | z
  · exact f.nw a z
  · exact .inr (f.tk a z)
theorem Fu.get (f : Fu η H η' H') {l : Nat} {a : Addr} (h : η[l]? = some a) : η'[l]? = some a := by
  obtain ⟨r, e⟩ := f.px
  rw [e, List.getElem?_append_left (List.getElem?_eq_some_iff.mp h).1]
  exact h
theorem SqT.fu (f : Fu η H η' H') {a : Addr} {xs : List V} (h : SqT K H a xs) : SqT K H' a xs := by
  rcases h with (h | ⟨o, h⟩) | h
  · exact .inl (.inl (f.tp _ _ h))
  · exact .inl (.inr ⟨o, f.fz _ _ _ h⟩)
  · exact .inr h
theorem SqF.fu (f : Fu η H η' H') {a : Addr} {xs : List V} (h : SqF K H a xs) : SqF K H' a xs := by
  rcases h with ⟨o, h⟩ | h
  · exact .inl ⟨o, f.fz _ _ _ h⟩
  · exact .inr h
mutual
theorem RepD.fu (f : Fu η H η' H') : ∀ (x : PyData) (v : V), RepD K η H x v → RepD K η' H' x v
  | .none, _, h => by cases h; exact .none
  | .bool _, _, h => by cases h; exact .bool _
  | .int _, _, h => by cases h; exact .int _
  | .str _, _, h => by cases h; exact .str _
  | .list ds, _, h => by
    cases h with
    | list h1 h3 h2 => exact .list (f.ls _ _ h3 h1) (f.out h3 h1) (RepDs.fu f ds _ h2)
  | .tuple ds, _, h => by
    cases h with
    | tuple h1 h2 => exact .tuple (SqT.fu f h1) (RepDs.fu f ds _ h2)
  | .dict _, _, h => by
    cases h with
    | dct h1 h2 => exact .dct (f.ls _ _ h2 h1) (f.out h2 h1)
    | own h1 h2 h3 => exact .own (f.ls _ _ h2 h1) (f.out h2 h1) h3
theorem RepDs.fu (f : Fu η H η' H') : ∀ (xs : List PyData) (vs : List V), RepDs K η H xs vs → RepDs K η' H' xs vs
  | [], _, h => by cases h; exact .nil
  | x :: xs, _, h => by
    cases h with
    | cons h1 h2 => exact .cons (RepD.fu f x _ h1) (RepDs.fu f xs _ h2)
end
mutual
theorem RepW.fu (f : Fu η H η' H') : ∀ (x : W) (v : V), RepW K η H x v → RepW K η' H' x v
  | .d x, _, h => by cases h with | d h => exact .d (RepD.fu f x _ h)
  | .loc l, _, h => by cases h with | loc h => exact .loc (f.get h)
  | .tp ws, _, h => by cases h with | tp h1 h2 => exact .tp (SqT.fu f h1) (RepWs.fu f ws _ h2)
  | .fro ws, _, h => by cases h with | fro h1 h2 => exact .fro (SqF.fu f h1) (RepDs.fu f ws _ h2)
theorem RepWs.fu (f : Fu η H η' H') : ∀ (xs : List W) (vs : List V), RepWs K η H xs vs → RepWs K η' H' xs vs
  | [], _, h => by cases h; exact .nil
  | x :: xs, _, h => by
    cases h with
    | cons h1 h2 => exact .cons (RepW.fu f x _ h1) (RepWs.fu f xs _ h2)
end
theorem RepWs.length : ∀ {ws : List W} {vs : List V}, RepWs K η H ws vs → ws.length = vs.length
  | [], _, h => by cases h; rfl
  | w :: ws, _, h => by cases h with | cons _ h2 => rw [List.length_cons, List.length_cons, RepWs.length h2]
theorem RepDs.length : ∀ {ws : List PyData} {vs : List V}, RepDs K η H ws vs → ws.length = vs.length
  | [], _, h => by cases h; rfl
  | w :: ws, _, h => by cases h with | cons _ h2 => rw [List.length_cons, List.length_cons, RepDs.length h2]
theorem RepDs.get : ∀ {ws : List PyData} {vs : List V} {i : Nat} {w : PyData}, RepDs K η H ws vs → ws[i]? = some w → ∃ v, vs[i]? = some v ∧ RepD K η H w v
  | [], _, _, _, _, e => by simp at e
  | x :: xs, _, 0, w, h, e => by
    cases h with
    | cons h1 h2 =>
      simp at e
      subst e
      exact ⟨_, rfl, h1⟩
  | x :: xs, _, i + 1, w, h, e => by
    cases h with
    | cons h1 h2 =>
      obtain ⟨v, e1, e2⟩ := RepDs.get (i := i) (w := w) h2 (by simpa using e)
      exact ⟨v, by simpa using e1, e2⟩
theorem RepWs.get : ∀ {ws : List W} {vs : List V} {i : Nat} {w : W}, RepWs K η H ws vs → ws[i]? = some w → ∃ v, vs[i]? = some v ∧ RepW K η H w v
  | [], _, _, _, _, e => by simp at e
  | x :: xs, _, 0, w, h, e => by
    cases h with
    | cons h1 h2 =>
      simp at e
      subst e
      exact ⟨_, rfl, h1⟩
  | x :: xs, _, i + 1, w, h, e => by
    cases h with
    | cons h1 h2 =>
      obtain ⟨v, e1, e2⟩ := RepWs.get (i := i) (w := w) h2 (by simpa using e)
      exact ⟨v, by simpa using e1, e2⟩
theorem RepWs.append : ∀ {ws ws' : List W} {vs vs' : List V}, RepWs K η H ws vs → RepWs K η H ws' vs' → RepWs K η H (ws ++ ws') (vs ++ vs')
  | [], _, _, _, h, h' => by cases h; exact h'
  | w :: ws, _, _, _, h, h' => by cases h with | cons h1 h2 => exact .cons h1 (RepWs.append h2 h')
theorem RepDs.append : ∀ {ws ws' : List PyData} {vs vs' : List V}, RepDs K η H ws vs → RepDs K η H ws' vs' → RepDs K η H (ws ++ ws') (vs ++ vs')
  | [], _, _, _, h, h' => by cases h; exact h'
  | w :: ws, _, _, _, h, h' => by cases h with | cons h1 h2 => exact .cons h1 (RepDs.append h2 h')
theorem RepDs.take : ∀ {ws : List PyData} {vs : List V} (n : Nat), RepDs K η H ws vs → RepDs K η H (ws.take n) (vs.take n)
  | _, _, 0, _ => by simp only [List.take_zero]; exact .nil
  | [], _, _ + 1, h => by cases h; exact .nil
  | w :: ws, _, n + 1, h => by cases h with | cons h1 h2 => exact .cons h1 (RepDs.take n h2)
theorem RepDs.drop : ∀ {ws : List PyData} {vs : List V} (n : Nat), RepDs K η H ws vs → RepDs K η H (ws.drop n) (vs.drop n)
  | _, _, 0, h => h
  | [], _, _ + 1, h => by cases h; exact .nil
  | w :: ws, _, n + 1, h => by cases h with | cons h1 h2 => exact RepDs.drop n h2
theorem RepWs.take : ∀ {ws : List W} {vs : List V} (n : Nat), RepWs K η H ws vs → RepWs K η H (ws.take n) (vs.take n)
  | _, _, 0, _ => by simp only [List.take_zero]; exact .nil
  | [], _, _ + 1, h => by cases h; exact .nil
  | w :: ws, _, n + 1, h => by cases h with | cons h1 h2 => exact .cons h1 (RepWs.take n h2)
theorem RepWs.drop : ∀ {ws : List W} {vs : List V} (n : Nat), RepWs K η H ws vs → RepWs K η H (ws.drop n) (vs.drop n)
  | _, _, 0, h => h
  | [], _, _ + 1, h => by cases h; exact .nil
  | w :: ws, _, n + 1, h => by cases h with | cons h1 h2 => exact RepWs.drop n h2
theorem RepWs.set {w : W} {v : V} (r : RepW K η H w v) : ∀ {ws : List W} {vs : List V} (n : Nat), RepWs K η H ws vs → RepWs K η H (ws.set n w) (vs.set n v)
  | [], _, n, h => by cases h; exact .nil
  | x :: ws, _, 0, h => by cases h with | cons h1 h2 => exact .cons r h2
  | x :: ws, _, n + 1, h => by cases h with | cons h1 h2 => exact .cons h1 (RepWs.set r n h2)
theorem RepDs.set {w : PyData} {v : V} (r : RepD K η H w v) : ∀ {ws : List PyData} {vs : List V} (n : Nat), RepDs K η H ws vs → RepDs K η H (ws.set n w) (vs.set n v)
  | [], _, n, h => by cases h; exact .nil
  | x :: ws, _, 0, h => by cases h with | cons h1 h2 => exact .cons r h2
  | x :: ws, _, n + 1, h => by cases h with | cons h1 h2 => exact .cons h1 (RepDs.set r n h2)
theorem RepDs.eraseIdx : ∀ {ws : List PyData} {vs : List V} (n : Nat), RepDs K η H ws vs → RepDs K η H (ws.eraseIdx n) (vs.eraseIdx n)
  | [], _, n, h => by cases h; exact .nil
  | x :: ws, _, 0, h => by cases h with | cons h1 h2 => exact h2
  | x :: ws, _, n + 1, h => by cases h with | cons h1 h2 => exact .cons h1 (RepDs.eraseIdx n h2)
theorem RepDs.dropLast {ws : List PyData} {vs : List V} (h : RepDs K η H ws vs) : RepDs K η H ws.dropLast vs.dropLast := by
  rw [List.dropLast_eq_take, List.dropLast_eq_take, h.length]
  exact h.take _
theorem RepDs.reverse : ∀ {ws : List PyData} {vs : List V}, RepDs K η H ws vs → RepDs K η H ws.reverse vs.reverse
  | [], _, h => by cases h; exact .nil
  | x :: ws, _, h => by
    cases h with
    | cons h1 h2 =>
      rw [List.reverse_cons, List.reverse_cons]
      exact (RepDs.reverse h2).append (.cons h1 .nil)
theorem RepWs.ofD : ∀ {ds : List PyData} {vs : List V}, RepDs K η H ds vs → RepWs K η H (ds.map W.d) vs
  | [], _, h => by cases h; exact .nil
  | x :: xs, _, h => by cases h with | cons h1 h2 => exact .cons (.d h1) (RepWs.ofD h2)
/-- all are pure data -/
def datas : List W → Option (List PyData)
  | [] => some []
  | .d x :: r => (datas r).map (x :: ·)
  | _ :: _ => none
theorem datas_ok : ∀ {ws : List W} {ds : List PyData} {vs : List V}, datas ws = some ds → RepWs K η H ws vs → RepDs K η H ds vs
  | [], ds, vs, e, h => by cases e; cases h; exact .nil
  | .d x :: r, ds, vs, e, h => by
    cases h with
    | cons h1 h2 =>
      cases h1 with
      | d h1 =>
        cases q : datas r with
        | none => rw [datas, q] at e; cases e
        | some ds' =>
          rw [datas, q] at e
          cases e
          exact .cons h1 (datas_ok q h2)
  | .loc _ :: _, ds, vs, e, h => by cases e
  | .tp _ :: _, ds, vs, e, h => by cases e
  | .fro _ :: _, ds, vs, e, h => by cases e
theorem datas_map : ∀ ds : List PyData, datas (ds.map W.d) = some ds
  | [] => rfl
  | x :: xs => by rw [List.map_cons, datas, datas_map xs]; rfl
end

/-! the store -/
def ORep (K : PySem.W.Frag) (η : List Addr) (H : Hp) (a : Addr) : SO → Prop
  | .lst ws => ∃ vs, H a = some (.lst vs) ∧ RepDs K η H ws vs
  | .dK kvs => ∃ vs, H a = some (.dK vs) ∧ kvs.map (·.1) = vs.map (·.1) ∧ RepDs K η H (kvs.map (·.2)) (vs.map (·.2))
  | .dT kvs => ∃ vs, H a = some (.dT vs) ∧ kvs.map (·.1) = vs.map (·.1) ∧ RepDs K η H (kvs.map (·.2)) (vs.map (·.2))
theorem ORep.there {K : PySem.W.Frag} {η : List Addr} {H : Hp} {a : Addr} : ∀ {o : SO}, ORep K η H a o → ∃ u, H a = some u ∧ Mut (some u)
  | .lst _, ⟨_, h, _⟩ => ⟨_, h, trivial⟩
  | .dK _, ⟨_, h, _⟩ => ⟨_, h, trivial⟩
  | .dT _, ⟨_, h, _⟩ => ⟨_, h, trivial⟩
structure Rp (K : PySem.W.Frag) (η : List Addr) (H : Hp) (S : Store) : Prop where
  len : η.length = S.length
  nd : η.Nodup
  all : ∀ (l : Nat) (a : Addr) (o : SO), η[l]? = some a → S[l]? = some o → ORep K η H a o
section
variable {K : PySem.W.Frag} {η η' : List Addr} {H H' : Hp} {S S' : Store}
theorem Rp.there (r : Rp K η H S) {a : Addr} (m : a ∈ η) : ∃ u, H a = some u ∧ Mut (some u) := by
  obtain ⟨l, hl, e⟩ := List.getElem_of_mem m
  have hs : l < S.length := by rw [← r.len]; exact hl
  exact (r.all l a S[l] (by rw [List.getElem?_eq_getElem hl, e]) (List.getElem?_eq_getElem hs)).there
theorem Rp.addr (r : Rp K η H S) {l : Nat} {o : SO} (h : S[l]? = some o) : ∃ a, η[l]? = some a ∧ ORep K η H a o := by
  have hl : l < η.length := by rw [r.len]; exact (List.getElem?_eq_some_iff.mp h).1
  exact ⟨_, List.getElem?_eq_getElem hl, r.all _ _ _ (List.getElem?_eq_getElem hl) h⟩
/-- a new object that is not live -/
theorem fu_new {p : Addr} {o : HO} (hp : H p = none) : Fu η H η (upd H p o) :=
  ⟨⟨[], by simp⟩, fun a h => .inl h, fun a h => by
    by_cases e : a = p
    · subst e; exact hp
    · rw [upd_ne e] at h; exact h, fun a xs h => by rw [upd_ne (ne_of_none h hp)]; exact h, fun a o u h => by rw [upd_ne (ne_of_none h hp)]; exact h, fun a xs _ h => by rw [upd_ne (ne_of_none h hp)]; exact h⟩
theorem ORep.fu (f : Fu η H η' H') {a : Addr} (hk : ∀ u, H a = some u → H' a = some u) : ∀ {o : SO}, ORep K η H a o → ORep K η' H' a o
  | .lst _, ⟨vs, h, r⟩ => ⟨vs, hk _ h, RepDs.fu f _ _ r⟩
  | .dK _, ⟨vs, h, e, r⟩ => ⟨vs, hk _ h, e, RepDs.fu f _ _ r⟩
  | .dT _, ⟨vs, h, e, r⟩ => ⟨vs, hk _ h, e, RepDs.fu f _ _ r⟩
theorem Rp.new (r : Rp K η H S) {p : Addr} {o : HO} (hp : H p = none) : Rp K η (upd H p o) S :=
  ⟨r.len, r.nd, fun l a so h1 h2 => (r.all l a so h1 h2).fu (fu_new hp) fun u e => by rw [upd_ne (ne_of_none e hp)]; exact e⟩
theorem Rp.notin (r : Rp K η H S) {p : Addr} (hp : H p = none) : p ∉ η := fun m => by
  obtain ⟨u, e, _⟩ := r.there m
  rw [hp] at e; cases e
/-- a new live object -/
theorem fu_live {p : Addr} {o : HO} (hp : H p = none) : Fu η H (η ++ [p]) (upd H p o) := by
  have f : Fu η H η (upd H p o) := fu_new hp
  refine ⟨⟨[p], rfl⟩, fun a h => ?_, f.tk, f.tp, f.fz, f.ls⟩
  rcases List.mem_append.mp h with h | h
  · exact .inl h
  · exact .inr (by rw [List.mem_singleton.mp h]; exact hp)
theorem Rp.live (r : Rp K η H S) {p : Addr} {o : HO} {so : SO} (hp : H p = none) (hn : ORep K (η ++ [p]) (upd H p o) p so) : Rp K (η ++ [p]) (upd H p o) (S ++ [so]) := by
  refine ⟨by rw [List.length_append, List.length_append, r.len]; rfl, ?_, fun l a so' h1 h2 => ?_⟩
  · refine List.nodup_append.mpr ⟨r.nd, by simp, fun a ha b hb => ?_⟩
    rw [List.mem_singleton.mp hb]
    exact fun e => r.notin hp (e ▸ ha)
  · by_cases hl : l < S.length
    · rw [List.getElem?_append_left (by rw [r.len]; exact hl)] at h1
      rw [List.getElem?_append_left hl] at h2
      exact (r.all l a so' h1 h2).fu (fu_live hp) fun u e => by rw [upd_ne (ne_of_none e hp)]; exact e
    · have e : l = S.length := by
        have := (List.getElem?_eq_some_iff.mp h2).1
        rw [List.length_append] at this
        simp at this
        omega
      subst e
      rw [List.getElem?_append_right (by rw [r.len]; exact Nat.le_refl _), r.len] at h1
      rw [List.getElem?_append_right (Nat.le_refl _)] at h2
      simp at h1 h2
      subst h1 h2
      exact hn
/-- a live object is written -/
theorem fu_write {a : Addr} {u o : HO} (m : a ∈ η) (h : H a = some u) (mu : Mut (some u)) : Fu η H η (upd H a o) := by
  refine ⟨⟨[], by simp⟩, fun a h => .inl h, fun b q => ?_, fun b xs q => ?_, fun b ob v q => ?_, fun b xs n q => ?_⟩
  · by_cases e : b = a
    · subst e; rw [upd_same] at q; cases q
    · rw [upd_ne e] at q; exact q
  · rw [upd_ne]
    · exact q
    · rintro rfl; rw [h] at q; cases q; exact mu.elim
  · rw [upd_ne]
    · exact q
    · rintro rfl; rw [h] at q; cases q; exact mu.elim
  · rw [upd_ne]
    · exact q
    · rintro rfl; exact n m
theorem nodup_get {l l' : Nat} {a : Addr} (nd : η.Nodup) (h : η[l]? = some a) (h' : η[l']? = some a) : l = l' := by
  obtain ⟨h1, e1⟩ := List.getElem?_eq_some_iff.mp h
  obtain ⟨h2, e2⟩ := List.getElem?_eq_some_iff.mp h'
  exact (List.getElem_inj nd).mp (e1.trans e2.symm)
theorem Rp.write (r : Rp K η H S) {l : Nat} {a : Addr} {o : HO} {so : SO} (h : η[l]? = some a) (hn : ORep K η (upd H a o) a so) : Rp K η (upd H a o) (S.set l so) := by
  have m : a ∈ η := List.mem_of_getElem? h
  obtain ⟨u, hu, mu⟩ := r.there m
  refine ⟨by rw [List.length_set]; exact r.len, r.nd, fun l' b so' h1 h2 => ?_⟩
  by_cases e : l' = l
  · subst e
    rw [h] at h1
    cases h1
    have hl : l' < S.length := by
      have := (List.getElem?_eq_some_iff.mp h2).1
      rw [List.length_set] at this
      exact this
    rw [List.getElem?_set_self hl] at h2
    cases h2
    exact hn
  · rw [List.getElem?_set_ne (Ne.symm e)] at h2
    refine (r.all l' b so' h1 h2).fu (fu_write m hu mu) fun v q => ?_
    rw [upd_ne]
    · exact q
    · rintro rfl; exact e (nodup_get r.nd h1 h)
end

/-! slots -/
def ERep (K : PySem.W.Frag) (η : List Addr) (H : Hp) (ρ : Rho) (σ : L2.St) : Prop :=
  σ.length = ρ.length ∧ ∀ (i : Nat) (w : W), ρ[i]? = some (some w) → ∃ v, σ[i]? = some (some v) ∧ RepW K η H w v
section
variable {K : PySem.W.Frag} {η η' : List Addr} {H H' : Hp} {S S' : Store} {ρ : Rho} {σ : L2.St}
theorem ERep.fu (f : Fu η H η' H') (e : ERep K η H ρ σ) : ERep K η' H' ρ σ := ⟨e.1, fun i w h => by
  obtain ⟨v, h1, h2⟩ := e.2 i w h
  exact ⟨v, h1, RepW.fu f _ _ h2⟩⟩
theorem ERep.set (e : ERep K η H ρ σ) {i : Nat} {w : W} {v : V} (r : RepW K η H w v) : ERep K η H (ρ.set i (some w)) (σ.set i (some v)) := by
  refine ⟨by rw [List.length_set, List.length_set]; exact e.1, fun j w' h => ?_⟩
  by_cases hj : j = i
  · subst hj
    have hl : j < ρ.length := by
      have := (List.getElem?_eq_some_iff.mp h).1
      rw [List.length_set] at this
      exact this
    rw [List.getElem?_set_self hl] at h
    cases h
    exact ⟨v, List.getElem?_set_self (by rw [e.1]; exact hl), r⟩
  · rw [List.getElem?_set_ne (Ne.symm hj)] at h
    rw [List.getElem?_set_ne (Ne.symm hj)]
    exact e.2 j w' h
end

/-! the ends -/
structure Gc where
  K : PySem.W.Frag
  ct : Nat → Option Addr
abbrev RepF (K : PySem.W.Frag) (η : List Addr) (H : Hp) (fs : List (Str × W)) (vs : List (Str × V)) : Prop :=
  fs.map (·.1) = vs.map (·.1) ∧ RepWs K η H (fs.map (·.2)) (vs.map (·.2))
def FinX (G : Gc) (E : XK) (η : List Addr) (H : Hp) (c : Nat) (fs : List (Str × W)) (S' : Store) : Prop :=
  ∀ η' H' C d vs, Fu η H η' H' → Rp G.K η' H' S' → G.ct c = some C → H' d = some (.xd vs) → RepF G.K η' H' fs vs → E (.ref C) (some d) H'
def FinR {α β : Type} (G : Gc) (rel : α → List Addr → Hp → β → Prop) (E : XK) (η : List Addr) (H : Hp) (r : R α) (Q : β → Hp → Prop) : Prop :=
  match r with
  | .ok a S' => ∀ η' H' v, Fu η H η' H' → Rp G.K η' H' S' → rel a η' H' v → Q v H'
  | .exc c fs S' => FinX G E η H c fs S'
  | .bad => False
abbrev relW (G : Gc) : W → List Addr → Hp → V → Prop := fun w η H v => RepW G.K η H w v
abbrev relB : Bool → List Addr → Hp → Bool → Prop := fun b _ _ v => v = b
abbrev relL (G : Gc) : List W → List Addr → Hp → List V → Prop := fun w η H v => RepWs G.K η H w v
abbrev FinP (G : Gc) (E : XK) (η : List Addr) (H : Hp) (r : R W) (Q : VK) : Prop := FinR G (relW G) E η H r Q
abbrev FinB (G : Gc) (E : XK) (η : List Addr) (H : Hp) (r : R Bool) (Q : Bool → Hp → Prop) : Prop := FinR G relB E η H r Q
abbrev FinL (G : Gc) (E : XK) (η : List Addr) (H : Hp) (r : R (List W)) (Q : List V → Hp → Prop) : Prop := FinR G (relL G) E η H r Q
def FinO (G : Gc) (η : List Addr) (H : Hp) (r : O) (Q : VK) : Prop :=
  match r with
  | some (w, S') => ∀ η' H' v, Fu η H η' H' → Rp G.K η' H' S' → RepW G.K η' H' w v → Q v H'
  | none => False
inductive RF where
  | next (ρ : Rho) (S : Store)
  | ret (w : W) (S : Store)
  | brk (ρ : Rho) (S : Store)
  | cnt (ρ : Rho) (S : Store)
  | exc (c : Nat) (fs : List (Str × W)) (ρ : Rho) (S : Store)
  | bad
def FinS (G : Gc) (E : L2.St → XK) (η : List Addr) (H : Hp) (r : RF) (D : Ends) : Prop :=
  match r with
  | .next ρ S' => ∀ η' H' σ, Fu η H η' H' → Rp G.K η' H' S' → ERep G.K η' H' ρ σ → D.nx σ H'
  | .ret w S' => ∀ η' H' v, Fu η H η' H' → Rp G.K η' H' S' → RepW G.K η' H' w v → D.rt v H'
  | .brk ρ S' => ∀ η' H' σ, Fu η H η' H' → Rp G.K η' H' S' → ERep G.K η' H' ρ σ → D.bk σ H'
  | .cnt ρ S' => ∀ η' H' σ, Fu η H η' H' → Rp G.K η' H' S' → ERep G.K η' H' ρ σ → D.ct σ H'
  | .exc c fs ρ S' => ∀ η' H' σ C d vs, Fu η H η' H' → Rp G.K η' H' S' → ERep G.K η' H' ρ σ → G.ct c = some C → H' d = some (.xd vs) → RepF G.K η' H' fs vs → E σ (.ref C) (some d) H'
  | .bad => False
abbrev FE := Rho → Store → R W
abbrev FT := Rho → Store → R Bool
abbrev FA := Rho → Store → R (List W)
abbrev FS := Rho → Store → RF
abbrev EX := L2.St → XK
def tF (G : Gc) (E : EX) (f : FE) : TE := fun σ H Q => ∃ η ρ S, Rp G.K η H S ∧ ERep G.K η H ρ σ ∧ FinP G (E σ) η H (f ρ S) Q
def tT (G : Gc) (E : EX) (f : FT) : TT := fun σ H Q => ∃ η ρ S, Rp G.K η H S ∧ ERep G.K η H ρ σ ∧ FinB G (E σ) η H (f ρ S) Q
def tA (G : Gc) (E : EX) (f : FA) : TA := fun σ H Q => ∃ η ρ S, Rp G.K η H S ∧ ERep G.K η H ρ σ ∧ FinL G (E σ) η H (f ρ S) Q
def tS (G : Gc) (E : EX) (f : FS) : TS := fun D σ H => ∃ η ρ S, Rp G.K η H S ∧ ERep G.K η H ρ σ ∧ FinS G E η H (f ρ S) D
theorem PEw {X : Cx} {e : Expr} {t t' : TE} (h : PE X e t) (i : ∀ σ H Q, t' σ H Q → t σ H Q) : PE X e t' := ⟨fun pins s σ H Q I q => h.run pins s σ H Q I (i σ H Q q)⟩
theorem PTw {X : Cx} {e : Expr} {t t' : TT} (h : PT X e t) (i : ∀ σ H Q, t' σ H Q → t σ H Q) : PT X e t' := ⟨fun pins s σ H Q I q => h.run pins s σ H Q I (i σ H Q q)⟩
theorem PWw {X : Cx} {e : Expr} {t t' : TT} (h : PW X e t) (i : ∀ σ H Q, t' σ H Q → t σ H Q) : PW X e t' := ⟨fun wh pins s σ H Q I q => h.run wh pins s σ H Q I (i σ H Q q)⟩
theorem PAw {X : Cx} {e : List Expr} {t t' : TA} (h : PA X e t) (i : ∀ σ H Q, t' σ H Q → t σ H Q) : PA X e t' := ⟨fun p pins s σ H Q I q => h.run p pins s σ H Q I (i σ H Q q)⟩
theorem PSw {X : Cx} {e : Stmt} {t t' : TS} (h : PS X e t) (i : ∀ D σ H, t' D σ H → t D σ H) : PS X e t' := ⟨fun pins s σ H Q I q => h.run pins s σ H Q I (i Q σ H q)⟩
theorem PSsw {X : Cx} {e : List Stmt} {t t' : TS} (h : PSs X e t) (i : ∀ D σ H, t' D σ H → t D σ H) : PSs X e t' := ⟨fun pins s σ H Q I q => h.run pins s σ H Q I (i Q σ H q)⟩
section
variable {G : Gc} {E : XK} {η : List Addr} {H : Hp}
theorem FinX.fu {c : Nat} {fs : List (Str × W)} {S' : Store} {η' : List Addr} {H' : Hp} (f : Fu η H η' H') (h : FinX G E η H c fs S') : FinX G E η' H' c fs S' :=
  fun η2 H2 C d vs g => h η2 H2 C d vs (f.trans g)
theorem FinR.fu {α β : Type} {rel : α → List Addr → Hp → β → Prop} {r : R α} {Q : β → Hp → Prop} {η' : List Addr} {H' : Hp} (f : Fu η H η' H') (h : FinR G rel E η H r Q) : FinR G rel E η' H' r Q := by
  cases r with
  | ok w2 S2 => exact fun η2 H2 v2 g => h η2 H2 v2 (f.trans g)
  | exc c fs S2 => exact FinX.fu f h
  | bad => exact h
theorem FinR.bind {α β γ δ : Type} {rel : α → List Addr → Hp → β → Prop} {rel2 : γ → List Addr → Hp → δ → Prop} {r : R α} {k : α → Store → R γ} {Q : δ → Hp → Prop} (h : FinR G rel2 E η H (r.bind k) Q) :
    FinR G rel E η H r fun v H1 => ∃ η1 w S1, Fu η H η1 H1 ∧ Rp G.K η1 H1 S1 ∧ rel w η1 H1 v ∧ FinR G rel2 E η1 H1 (k w S1) Q := by
  cases r with
  | ok w S' => exact fun η' H' v f rp rw_ => ⟨η', w, S', f, rp, rw_, FinR.fu f (show FinR G rel2 E η H (k w S') Q from h)⟩
  | exc c fs S' => exact h
  | bad => exact h
theorem FinR.mono {α β : Type} {rel : α → List Addr → Hp → β → Prop} {r : R α} {Q Q' : β → Hp → Prop} (h : FinR G rel E η H r Q) (i : ∀ v H', Q v H' → Q' v H') : FinR G rel E η H r Q' := by
  cases r with
  | ok w S' => exact fun η' H' v f a b => i v H' (h η' H' v f a b)
  | exc c fs S' => exact h
  | bad => exact h
theorem FinO.fu {r : O} {Q : VK} {η' : List Addr} {H' : Hp} (f : Fu η H η' H') (h : FinO G η H r Q) : FinO G η' H' r Q := by
  cases r with
  | some p => exact fun η2 H2 v2 g => h η2 H2 v2 (f.trans g)
  | none => exact h
theorem FinO.mono {r : O} {Q Q' : VK} (h : FinO G η H r Q) (i : ∀ v H', Q v H' → Q' v H') : FinO G η H r Q' := by
  cases r with
  | some p => exact fun η' H' v f a b => i v H' (h η' H' v f a b)
  | none => exact h
theorem FinS.fu {E : EX} {r : RF} {D : Ends} {η' : List Addr} {H' : Hp} (f : Fu η H η' H') (h : FinS G E η H r D) : FinS G E η' H' r D := by
  cases r with
  | next => exact fun η2 H2 v2 g => h η2 H2 v2 (f.trans g)
  | ret => exact fun η2 H2 v2 g => h η2 H2 v2 (f.trans g)
  | brk => exact fun η2 H2 v2 g => h η2 H2 v2 (f.trans g)
  | cnt => exact fun η2 H2 v2 g => h η2 H2 v2 (f.trans g)
  | exc => exact fun η2 H2 σ C d vs g => h η2 H2 σ C d vs (f.trans g)
  | bad => exact h
/-- an expression ahead of what is done with it -/
def toS {α : Type} (ρ : Rho) (r : R α) (k : α → Store → RF) : RF :=
  match r with
  | .ok a S => k a S
  | .exc c fs S => .exc c fs ρ S
  | .bad => .bad
theorem FinS.bind {α β : Type} {E : EX} {rel : α → List Addr → Hp → β → Prop} {r : R α} {ρ : Rho} {σ : L2.St} {k : α → Store → RF} {D : Ends} (er : ERep G.K η H ρ σ) (h : FinS G E η H (toS ρ r k) D) :
    FinR G rel (E σ) η H r fun v H1 => ∃ η1 w S1, Fu η H η1 H1 ∧ Rp G.K η1 H1 S1 ∧ rel w η1 H1 v ∧ FinS G E η1 H1 (k w S1) D := by
  cases r with
  | ok w S' => exact fun η' H' v f rp rw_ => ⟨η', w, S', f, rp, rw_, FinS.fu f (show FinS G E η H (k w S') D from h)⟩
  | exc c fs S' => exact fun η' H' C d vs f rp hc hd hf => h η' H' σ C d vs f rp (er.fu f) hc hd hf
  | bad => exact h
theorem FinP.lift {o : O} {Q : VK} (h : FinP G E η H (lift o) Q) : FinO G η H o Q := by
  cases o with
  | none => exact h
  | some p => exact h
end
end VI
set_option Elab.async false
set_option linter.all false
set_option maxRecDepth 100000
namespace VI
open PySem PySem.Spec PyProof.Rows L2
abbrev lim : Nat := 16777216
theorem lim_ok {n : Nat} (h : n ≤ lim) : n ≤ sizeLine := by rw [sizeLine_eq]; exact h
abbrev gx (X : Cx) (ct : Nat → Option Addr) : Gc := ⟨X.K, ct⟩

/-! new objects -/
section
variable {K : PySem.W.Frag} {ct : Nat → Option Addr} {η : List Addr} {H : Hp} {S : Store} {Q : VK}
theorem new_list {ds : List PyData} {vs : List V} (rp : Rp K η H S) (r : RepDs K η H ds vs) (h : FinO ⟨K, ct⟩ η H (some (.d (.list ds), S)) Q) : ∀ p, H p = none → Q (.ref p) (upd H p (.lst vs)) := fun p hp =>
  h η _ _ (fu_new hp) (rp.new hp) (.d (.list upd_same (rp.notin hp) (RepDs.fu (fu_new hp) _ _ r)))
theorem new_tup {ds : List PyData} {vs : List V} (rp : Rp K η H S) (r : RepDs K η H ds vs) (h : FinO ⟨K, ct⟩ η H (some (.d (.tuple ds), S)) Q) : ∀ p, H p = none → Q (.ref p) (upd H p (.tup vs)) := fun p hp =>
  h η _ _ (fu_new hp) (rp.new hp) (.d (.tuple (SqT.of upd_same) (RepDs.fu (fu_new hp) _ _ r)))
theorem new_tp {ws : List W} {vs : List V} (rp : Rp K η H S) (r : RepWs K η H ws vs) (h : FinO ⟨K, ct⟩ η H (some (.tp ws, S)) Q) : ∀ p, H p = none → Q (.ref p) (upd H p (.tup vs)) := fun p hp =>
  h η _ _ (fu_new hp) (rp.new hp) (.tp (SqT.of upd_same) (RepWs.fu (fu_new hp) _ _ r))
theorem new_live {ws : List PyData} {vs : List V} (rp : Rp K η H S) (r : RepDs K η H ws vs) (h : FinO ⟨K, ct⟩ η H (some (.loc S.length, S ++ [.lst ws])) Q) : ∀ p, H p = none → Q (.ref p) (upd H p (.lst vs)) := fun p hp =>
  h (η ++ [p]) _ _ (fu_live hp) (rp.live hp ⟨vs, upd_same, RepDs.fu (fu_live hp) _ _ r⟩) (.loc (by rw [← rp.len]; simp))
theorem same_val {w : W} {v : V} (rp : Rp K η H S) (r : RepW K η H w v) (h : FinO ⟨K, ct⟩ η H (some (w, S)) Q) : Q v H := h η H v (Fu.refl _ _) rp r
/-- a live list is written -/
theorem write_list {l : Nat} {a : Addr} {ws : List PyData} {vs : List V} {w : W} {v : V} (rp : Rp K η H S) (ha : η[l]? = some a) (r : RepDs K η H ws vs) (rw_ : RepW K η H w v) (h : FinO ⟨K, ct⟩ η H (some (w, S.set l (.lst ws))) Q) :
    Q v (upd H a (.lst vs)) := by
  have m : a ∈ η := List.mem_of_getElem? ha
  obtain ⟨u, hu, mu⟩ := rp.there m
  have f : Fu η H η (upd H a (.lst vs)) := fu_write m hu mu
  exact h η _ v f (rp.write ha ⟨vs, upd_same, RepDs.fu f _ _ r⟩) (RepW.fu f _ _ rw_)
end

/-! views -/
def asL (w : W) (S : Store) : Option (List PyData) :=
  match w with
  | .d (.list xs) => some xs
  | .loc l => match S[l]? with
    | some (.lst xs) => some xs
    | _ => none
  | _ => none
def asLW (w : W) (S : Store) : Option (List W) :=
  match w with
  | .d (.list xs) => some (xs.map W.d)
  | .loc l => match S[l]? with
    | some (.lst ws) => some (ws.map W.d)
    | _ => none
  | .fro xs => some (xs.map W.d)
  | _ => none
def asTW (w : W) : Option (List W) :=
  match w with
  | .d (.tuple xs) => some (xs.map W.d)
  | .tp ws => some ws
  | _ => none
def mkT (ws : List W) : W :=
  match datas ws with
  | some ds => .d (.tuple ds)
  | none => .tp ws
section
variable {K : PySem.W.Frag} {ct : Nat → Option Addr} {η : List Addr} {H : Hp} {S : Store} {Q : VK} {w : W} {v : V}
theorem asL_ok {xs : List PyData} (e : asL w S = some xs) (rp : Rp K η H S) (r : RepW K η H w v) : ∃ a vs, v = .ref a ∧ H a = some (.lst vs) ∧ RepDs K η H xs vs := by
  cases w with
  | d x =>
    cases r with
    | d r =>
      cases x <;> cases e
      cases r with
      | list h1 h2 h3 => exact ⟨_, _, rfl, h1, h3⟩
  | loc l =>
    cases r with
    | loc r =>
      cases q : S[l]? with
      | none => simp only [asL, q] at e; cases e
      | some o =>
        cases o with
        | lst ws =>
          simp only [asL, q] at e
          cases e
          obtain ⟨vs, h1, h2⟩ := rp.all _ _ _ r q
          exact ⟨_, vs, rfl, h1, h2⟩
        | dK _ => simp only [asL, q] at e; cases e
        | dT _ => simp only [asL, q] at e; cases e
  | tp _ => cases e
  | fro _ => cases e
theorem asLW_ok {xs : List W} (e : asLW w S = some xs) (rp : Rp K η H S) (r : RepW K η H w v) : ∃ a vs, v = .ref a ∧ SqL K H a vs ∧ RepWs K η H xs vs := by
  cases w with
  | d x =>
    cases r with
    | d r =>
      cases x <;> cases e
      cases r with
      | list h1 h2 h3 => exact ⟨_, _, rfl, SqL.of h1, RepWs.ofD h3⟩
  | loc l =>
    cases r with
    | loc r =>
      cases q : S[l]? with
      | none => simp only [asLW, q] at e; cases e
      | some o =>
        cases o with
        | lst ws =>
          simp only [asLW, q] at e
          cases e
          obtain ⟨vs, h1, h2⟩ := rp.all _ _ _ r q
          exact ⟨_, vs, rfl, SqL.of h1, RepWs.ofD h2⟩
        | dK _ => simp only [asLW, q] at e; cases e
        | dT _ => simp only [asLW, q] at e; cases e
  | tp _ => cases e
  | fro _ =>
    cases e
    cases r with
    | fro h1 h2 => exact ⟨_, _, rfl, h1.seq, RepWs.ofD h2⟩
theorem asTW_ok {xs : List W} (e : asTW w = some xs) (r : RepW K η H w v) : ∃ a vs, v = .ref a ∧ SqT K H a vs ∧ RepWs K η H xs vs := by
  cases w with
  | d x =>
    cases r with
    | d r =>
      cases x <;> cases e
      cases r with
      | tuple h1 h2 => exact ⟨_, _, rfl, h1, RepWs.ofD h2⟩
  | loc _ => cases e
  | tp _ =>
    cases e
    cases r with
    | tp h1 h2 => exact ⟨_, _, rfl, h1, h2⟩
  | fro _ => cases e
theorem new_mkT {ws : List W} {vs : List V} (rp : Rp K η H S) (r : RepWs K η H ws vs) (h : FinO ⟨K, ct⟩ η H (some (mkT ws, S)) Q) : ∀ p, H p = none → Q (.ref p) (upd H p (.tup vs)) := by
  unfold mkT at h
  cases q : datas ws with
  | some ds => rw [q] at h; exact new_tup rp (datas_ok q r) h
  | none => rw [q] at h; exact new_tp rp r h
/-- the same tuple, seen anew -/
theorem same_mkT {ws : List W} {vs : List V} {a : Addr} (rp : Rp K η H S) (ha : SqT K H a vs) (r : RepWs K η H ws vs) (h : FinO ⟨K, ct⟩ η H (some (mkT ws, S)) Q) : Q (.ref a) H := by
  unfold mkT at h
  cases q : datas ws with
  | some ds => rw [q] at h; exact same_val rp (.d (.tuple ha (datas_ok q r))) h
  | none => rw [q] at h; exact same_val rp (.tp ha r) h
end

/-! names, constants -/
def fVar (i : Nat) : FE := fun ρ S => match ρ[i]? with
  | some (some w) => .ok w S
  | _ => .bad
def fC (w : PyData) : FE := fun _ S => .ok (.d w) S
section
variable {X : Cx} {ct : Nat → Option Addr} {E : EX}
theorem i_of {e : Expr} {i : Nat} (h : PE X e (tVar i)) : PE X e (tF (gx X ct) E (fVar i)) := PEw h fun σ H Q ⟨η, ρ, S, rp, er, h⟩ => by
  cases q : ρ[i]? with
  | none => simp only [fVar, q] at h; exact h.elim
  | some o =>
    cases o with
    | none => simp only [fVar, q] at h; exact h.elim
    | some w =>
      simp only [fVar, q] at h
      obtain ⟨v, e1, r⟩ := er.2 i w q
      exact ⟨v, e1, h η H v (Fu.refl _ _) rp r⟩
theorem iv (i : Nat) {x : Str} {pos : Pos} (hN : X.N[i]? = some x := by rfl) (hv : Vis X.env.scope x := by first | exact Or.inl rfl | exact Or.inr (Or.inl rfl) | exact Or.inr (Or.inr rfl)) (hd : (x == ("__debug__" : Str)) = false := by decide)
    (hcd : (x == ("__classdict__" : Str)) = false := by decide) : PE X (.Name x pos) (tF (gx X ct) E (fVar i)) := i_of (pe_var hN hv hd hcd)
theorem i_const {e : Expr} {w : PyData} {v : V} (h : PE X e (tC v)) (r : ∀ η H, RepD X.K η H w v) : PE X e (tF (gx X ct) E (fC w)) := PEw h fun σ H Q ⟨η, ρ, S, rp, er, h⟩ => h η H v (Fu.refl _ _) rp (.d (r η H))
theorem ii {i : Int} {j : Nat} {pos : Pos} : PE X (.Constant (.int i) j pos) (tF (gx X ct) E (fC (.int i))) := i_const pe_int fun _ _ => .int _
theorem ib {b : Bool} {j : Nat} {pos : Pos} : PE X (.Constant (.bool b) j pos) (tF (gx X ct) E (fC (.bool b))) := i_const pe_bl fun _ _ => .bool _
theorem inn {j : Nat} {pos : Pos} : PE X (.Constant .none j pos) (tF (gx X ct) E (fC .none)) := i_const pe_non fun _ _ => .none
theorem is {x : Str} {j : Nat} {pos : Pos} : PE X (.Constant (.str x) j pos) (tF (gx X ct) E (fC (.str x))) := i_const pe_str fun _ _ => .str _
/-- a constant of the module -/
theorem ig {x : Str} {v : V} {u : Value} {w : PyData} {pos : Pos} (hg : Gl X x) (hm : X.mg x = some u) (r : RelV v u) (rd : ∀ η H, RepD X.K η H w v) (hd : (x == ("__debug__" : Str)) = false := by decide) : PE X (.Name x pos) (tF (gx X ct) E (fC w)) := i_const (pe_glob hg hm r hd) rd

/-! one and two values -/
def f1 (g : W → Store → O) (a : FE) : FE := fun ρ S => (a ρ S).bind fun x S1 => lift (g x S1)
def f2 (g : W → W → Store → O) (a b : FE) : FE := fun ρ S => (a ρ S).bind fun x S1 => (b ρ S1).bind fun y S2 => lift (g x y S2)
theorem lift_ok {G : Gc} {Z : XK} {η : List Addr} {H : Hp} {o : O} {Q : VK} (h : FinP G Z η H (lift o) Q) : FinO G η H o Q := by
  cases o with
  | none => exact h
  | some p => exact h
def Sim1 (X : Cx) (ct : Nat → Option Addr) (g : W → Store → O) : V → Hp → VK → Prop := fun x H Q => ∃ η S wx, Rp X.K η H S ∧ RepW X.K η H wx x ∧ FinO (gx X ct) η H (g wx S) Q
def Sim2 (X : Cx) (ct : Nat → Option Addr) (g : W → W → Store → O) : R2 := fun x y H Q => ∃ η S wx wy, Rp X.K η H S ∧ RepW X.K η H wx x ∧ RepW X.K η H wy y ∧ FinO (gx X ct) η H (g wx wy S) Q
theorem get1 {a : FE} {g : W → Store → O} {r : V → Hp → VK → Prop} (hr : ∀ x H Q, Sim1 X ct g x H Q → r x H Q) : ∀ σ H Q, tF (gx X ct) E (f1 g a) σ H Q → tF (gx X ct) E a σ H fun x H1 => r x H1 Q := fun σ H Q ⟨η, ρ, S, rp, er, h⟩ =>
  ⟨η, ρ, S, rp, er, FinR.mono (FinR.bind h) fun v H1 ⟨η1, w, S1, f, rp1, r1, h1⟩ => hr _ _ _ ⟨η1, S1, w, rp1, r1, lift_ok h1⟩⟩
theorem get2 {a b : FE} {g : W → W → Store → O} {r : R2} (hr : ∀ x y H Q, Sim2 X ct g x y H Q → r x y H Q) : ∀ σ H Q, tF (gx X ct) E (f2 g a b) σ H Q → tOp r (tF (gx X ct) E a) (tF (gx X ct) E b) σ H Q := fun σ H Q ⟨η, ρ, S, rp, er, h⟩ =>
  ⟨η, ρ, S, rp, er, FinR.mono (FinR.bind h) fun v H1 ⟨η1, w, S1, f, rp1, r1, h1⟩ =>
    ⟨η1, ρ, S1, rp1, er.fu f, FinR.mono (FinR.bind h1) fun v2 H2 ⟨η2, w2, S2, f2, rp2, r2, h2⟩ => hr _ _ _ _ ⟨η2, S2, w, w2, rp2, RepW.fu f2 _ _ r1, r2, lift_ok h2⟩⟩⟩
theorem i_op {op : Operator} {g : W → W → Store → O} {a b : Expr} {fa fb : FE} {pos : Pos} (ho : OpR X (binaryOp op) (Sim2 X ct g)) (ha : PE X a (tF (gx X ct) E fa)) (hb : PE X b (tF (gx X ct) E fb)) : PE X (.BinOp a op b pos) (tF (gx X ct) E (f2 g fa fb)) :=
  PEw (pe_op ho ha hb) (get2 fun _ _ _ _ h => h)
theorem i_cmp {op : CmpOp} {g : W → W → Store → O} {a b : Expr} {fa fb : FE} {pos : Pos} (ho : OpR X (compareOp op) (Sim2 X ct g)) (ha : PE X a (tF (gx X ct) E fa)) (hb : PE X b (tF (gx X ct) E fb)) (hm : behindInMarks op b = false) :
    PE X (.Compare a [op] [b] pos) (tF (gx X ct) E (f2 g fa fb)) := PEw (pe_cmpR ho ha hb hm) (get2 fun _ _ _ _ h => h)
/-- a rule of the layer that the reading fits -/
theorem OpR.fit {f : Value → Value → Sem Value} {r r' : R2} (h : OpR X f r) (i : ∀ x y H Q, r' x y H Q → r x y H Q) : OpR X f r' := fun pins s σ H x y v u Q I rx ry q => h pins s σ H x y v u Q I rx ry (i _ _ _ _ q)

/-! + -/
def gAdd (a b : W) (S : Store) : O :=
  match a, b with
  | .d (.int i), .d (.int j) => some (.d (.int (i + j)), S)
  | .d (.str x), .d (.str y) => if x.length + y.length ≤ lim then some (.d (.str (x ++ y)), S) else none
  | a, b => match asL a S, asL b S with
    | some xs, some ys => if xs.length + ys.length ≤ lim then some (.d (.list (xs ++ ys)), S) else none
    | _, _ => match asTW a, asTW b with
      | some xs, some ys => if xs.length + ys.length ≤ lim then some (mkT (xs ++ ys), S) else none
      | _, _ => none
def gAddInt (a b : W) (S : Store) : O := match a, b with
  | .d (.int i), .d (.int j) => some (.d (.int (i + j)), S)
  | _, _ => none
def gAddStr (a b : W) (S : Store) : O := match a, b with
  | .d (.str x), .d (.str y) => if x.length + y.length ≤ lim then some (.d (.str (x ++ y)), S) else none
  | _, _ => none
def gCat (a b : W) (S : Store) : O := match asL a S, asL b S with
  | some xs, some ys => if xs.length + ys.length ≤ lim then some (.d (.list (xs ++ ys)), S) else none
  | _, _ => none
def gCatT (a b : W) (S : Store) : O := match asTW a, asTW b with
  | some xs, some ys => if xs.length + ys.length ≤ lim then some (mkT (xs ++ ys), S) else none
  | _, _ => none
/-- two ints -/
theorem int2 {g : Int → Int → Option V} {gg : W → W → Store → O} : True := trivial
def gI2 (C : Int → Int → Bool) (g : Int → Int → PyData) (a b : W) (S : Store) : O := match a, b with
  | .d (.int i), .d (.int j) => if C i j = true then some (.d (g i j), S) else none
  | _, _ => none
theorem sim_i2 {f : Value → Value → Sem Value} {C : Int → Int → Bool} {C' : Int → Int → Prop} {g : Int → Int → PyData} {g' : Int → Int → V} (ho : OpR X f (rI C' g')) (hC : ∀ i j, C i j = true → C' i j) (hg : ∀ i j η H, RepD X.K η H (g i j) (g' i j)) : OpR X f (Sim2 X ct (gI2 C g)) :=
  OpR.fit ho fun x y H Q ⟨η, S, wx, wy, rp, rx, ry, h⟩ => by
    cases wx with
    | d x =>
      cases x with
      | int i =>
        cases wy with
        | d y =>
          cases y with
          | int j =>
            cases rx with
            | d rx =>
              cases ry with
              | d ry =>
                cases rx
                cases ry
                simp only [gI2] at h
                split at h
                · exact ⟨i, j, rfl, rfl, hC _ _ (by assumption), same_val rp (.d (hg _ _ _ _)) h⟩
                · exact h.elim
          | _ => exact h.elim
        | _ => exact h.elim
      | _ => exact h.elim
    | _ => exact h.elim
theorem rI0_rI {g : Int → Int → V} {x y : V} {H : Hp} {Q : VK} (h : rI (fun _ _ => True) g x y H Q) : rI0 g x y H Q := by
  obtain ⟨i, j, e1, e2, _, q⟩ := h
  exact ⟨i, j, e1, e2, q⟩
theorem sim_i20 {f : Value → Value → Sem Value} {g : Int → Int → PyData} {g' : Int → Int → V} (ho : OpR X f (rI0 g')) (hg : ∀ i j η H, RepD X.K η H (g i j) (g' i j)) : OpR X f (Sim2 X ct (gI2 (fun _ _ => true) g)) :=
  sim_i2 (C' := fun _ _ => True) (OpR.fit ho fun _ _ _ _ => rI0_rI) (fun _ _ _ => trivial) hg
end
end VI
set_option Elab.async false
set_option linter.all false
set_option maxRecDepth 100000
namespace VI
open PySem PySem.Spec PyProof.Rows L2
section
variable {X : Cx} {ct : Nat → Option Addr} {E : EX}

/-! + of all sorts -/
theorem sim_addStr : OpR X (binaryOp .Add) (Sim2 X ct gAddStr) := OpR.fit op_add_str fun x y H Q ⟨η, S, wx, wy, rp, rx, ry, h⟩ => by
  unfold gAddStr at h
  split at h
  · cases rx with
    | d rx =>
      cases ry with
      | d ry =>
        cases rx
        cases ry
        split at h
        · exact ⟨_, _, rfl, rfl, lim_ok (by assumption), same_val rp (.d (.str _)) h⟩
        · exact h.elim
  · exact h.elim
theorem sim_cat : OpR X (binaryOp .Add) (Sim2 X ct gCat) := OpR.fit op_cat fun x y H Q ⟨η, S, wx, wy, rp, rx, ry, h⟩ => by
  unfold gCat at h
  split at h
  · rename_i xs ys e1 e2
    obtain ⟨a, vs, rfl, h1, r1⟩ := asL_ok e1 rp rx
    obtain ⟨b, us, rfl, h2, r2⟩ := asL_ok e2 rp ry
    split at h
    · rename_i hz
      exact ⟨a, b, vs, us, rfl, rfl, h1, h2, lim_ok (by rw [← r1.length, ← r2.length]; exact hz), new_list rp (r1.append r2) h⟩
    · exact h.elim
  · exact h.elim
theorem repWs_nil_iff {K : PySem.W.Frag} {η : List Addr} {H : Hp} {ws : List W} {vs : List V} (r : RepWs K η H ws vs) : vs = [] ↔ ws = [] := by
  cases r <;> simp
theorem sim_catT : OpR X (binaryOp .Add) (Sim2 X ct gCatT) := OpR.fit op_catA fun x y H Q ⟨η, S, wx, wy, rp, rx, ry, h⟩ => by
  unfold gCatT at h
  split at h
  · rename_i xs ys e1 e2
    obtain ⟨a, vs, rfl, h1, r1⟩ := asTW_ok e1 rx
    obtain ⟨b, us, rfl, h2, r2⟩ := asTW_ok e2 ry
    split at h
    · rename_i hz
      refine ⟨a, b, vs, us, rfl, rfl, h1, h2, lim_ok (by rw [← r1.length, ← r2.length]; exact hz), fun e => ?_, fun _ e => ?_, fun _ _ => new_mkT rp (r1.append r2) h⟩
      · obtain rfl := (repWs_nil_iff r1).mp e
        exact same_mkT rp h2 r2 h
      · obtain rfl := (repWs_nil_iff r2).mp e
        rw [List.append_nil] at h
        exact same_mkT rp h1 r1 h
    · exact h.elim
  · exact h.elim
/-- by cases: where the first has a word, it holds -/
theorem OpR.orElse {f : Value → Value → Sem Value} {g g' : W → W → Store → O} (h : OpR X f (Sim2 X ct g)) (h' : OpR X f (Sim2 X ct g')) : OpR X f (Sim2 X ct fun a b S => match g a b S with
  | some o => some o
  | none => g' a b S) := by
  intro pins s σ H x y v u Q I rx ry ⟨η, S, wx, wy, rp, r1, r2, q⟩
  cases e : g wx wy S with
  | some o => simp only [e] at q; exact h pins s σ H x y v u Q I rx ry ⟨η, S, wx, wy, rp, r1, r2, by rw [e]; exact q⟩
  | none => simp only [e] at q; exact h' pins s σ H x y v u Q I rx ry ⟨η, S, wx, wy, rp, r1, r2, q⟩
theorem OpR.ext {f : Value → Value → Sem Value} {g g' : W → W → Store → O} (h : OpR X f (Sim2 X ct g)) (e : ∀ a b S, g' a b S = none ∨ g' a b S = g a b S) : OpR X f (Sim2 X ct g') := OpR.fit h fun x y H Q ⟨η, S, wx, wy, rp, r1, r2, q⟩ => by
  rcases e wx wy S with z | z
  · rw [z] at q; exact q.elim
  · exact ⟨η, S, wx, wy, rp, r1, r2, by rw [← z]; exact q⟩
theorem sim_addI : OpR X (binaryOp .Add) (Sim2 X ct (gI2 (fun _ _ => true) fun i j => .int (i + j))) := sim_i20 op_add fun _ _ _ _ => .int _
theorem sim_add : OpR X (binaryOp .Add) (Sim2 X ct gAdd) := OpR.ext (OpR.orElse sim_addI (OpR.orElse sim_addStr (OpR.orElse sim_cat sim_catT))) fun a b S => by
  by_cases h1 : ∃ i j, a = .d (.int i) ∧ b = .d (.int j)
  · obtain ⟨i, j, rfl, rfl⟩ := h1
    exact .inr rfl
  by_cases h2 : ∃ x y, a = .d (.str x) ∧ b = .d (.str y)
  · obtain ⟨x, y, rfl, rfl⟩ := h2
    simp only [gAdd, gI2, gAddStr, gCat, gCatT, asL, asTW]
    split
    · exact .inr rfl
    · exact .inl rfl
  have e1 : gI2 (fun _ _ => true) (fun i j => PyData.int (i + j)) a b S = none := by
    unfold gI2
    split
    · exact absurd ⟨_, _, rfl, rfl⟩ h1
    · rfl
  have e2 : gAddStr a b S = none := by
    unfold gAddStr
    split
    · exact absurd ⟨_, _, rfl, rfl⟩ h2
    · rfl
  rw [e1, e2]
  dsimp only
  unfold gAdd gCat gCatT
  split
  · exact absurd ⟨_, _, rfl, rfl⟩ h1
  · exact absurd ⟨_, _, rfl, rfl⟩ h2
  · split
    · rename_i xs ys e3 e4
      split
      · simp
      · exact .inl rfl
    · simp
abbrev gSub := gI2 (fun _ _ => true) fun i j => .int (i - j)
theorem sim_sub : OpR X (binaryOp .Sub) (Sim2 X ct gSub) := sim_i20 op_sub fun _ _ _ _ => .int _
abbrev gMul := gI2 (fun i j => decide (i.natAbs.log2 + j.natAbs.log2 < 1000000)) fun i j => .int (i * j)
theorem sim_mul : OpR X (binaryOp .Mult) (Sim2 X ct gMul) := sim_i2 op_mulW (fun i j h => show i.natAbs.log2 + j.natAbs.log2 < 1000000 from of_decide_eq_true h) fun _ _ _ _ => .int _
abbrev gMod := gI2 (fun _ j => decide (0 < j)) fun i j => .int (i % j)
theorem sim_mod : OpR X (binaryOp .Mod) (Sim2 X ct gMod) := sim_i2 op_mod (fun _ _ h => of_decide_eq_true h) fun _ _ _ _ => .int _
abbrev gDiv := gI2 (fun _ j => decide (0 < j ∧ j < 1073741824)) fun i j => .int (i / j)
theorem sim_div : OpR X (binaryOp .FloorDiv) (Sim2 X ct gDiv) := sim_i2 op_fdiv (fun i j h => show 0 < j ∧ j < 1073741824 from of_decide_eq_true h) fun _ _ _ _ => .int _
abbrev gPow := gI2 (fun i j => decide (0 ≤ j ∧ j ≤ 1000000 ∧ i.natAbs < 18446744073709551616)) fun i j => .int (i ^ j.toNat)
theorem sim_pow : OpR X (binaryOp .Pow) (Sim2 X ct gPow) := sim_i2 op_pow (fun i j h => show 0 ≤ j ∧ j ≤ 1000000 ∧ i.natAbs < 18446744073709551616 from of_decide_eq_true h) fun _ _ _ _ => .int _
/-! comparisons -/
abbrev gLt := gI2 (fun _ _ => true) fun i j => .bool (decide (i < j))
abbrev gLe := gI2 (fun _ _ => true) fun i j => .bool (decide (i ≤ j))
abbrev gGt := gI2 (fun _ _ => true) fun i j => .bool (decide (j < i))
abbrev gGe := gI2 (fun _ _ => true) fun i j => .bool (decide (j ≤ i))
theorem sim_lt : OpR X (compareOp .Lt) (Sim2 X ct gLt) := sim_i20 op_lt fun _ _ _ _ => .bool _
theorem sim_le : OpR X (compareOp .LtE) (Sim2 X ct gLe) := sim_i20 op_le fun _ _ _ _ => .bool _
theorem sim_gt : OpR X (compareOp .Gt) (Sim2 X ct gGt) := sim_i20 op_gt fun _ _ _ _ => .bool _
theorem sim_ge : OpR X (compareOp .GtE) (Sim2 X ct gGe) := sim_i20 op_ge fun _ _ _ _ => .bool _
mutual
/-- pure data of a value -/
def asD (w : W) (S : Store) : Option PyData :=
  match w with
  | .d x => some x
  | .loc l => match S[l]? with
    | some (.lst ds) => some (.list ds)
    | _ => none
  | .tp ws => match asDs ws S with
    | some ds => some (.tuple ds)
    | none => none
  | .fro _ => none
def asDs (ws : List W) (S : Store) : Option (List PyData) :=
  match ws with
  | [] => some []
  | w :: r => match asD w S, asDs r S with
    | some d, some ds => some (d :: ds)
    | _, _ => none
end
mutual
theorem RepD.dp {K : PySem.W.Frag} {η : List Addr} {H : Hp} : ∀ (x : PyData) (v : V), x.hasDict = false → RepD K η H x v → Dp K H v x
  | .none, _, _, h => by cases h; exact .non
  | .bool _, _, _, h => by cases h; exact .bl _
  | .int _, _, _, h => by cases h; exact .int _
  | .str _, _, _, h => by cases h; exact .str _
  | .list ds, _, n, h => by cases h with | list h1 h2 h3 => exact .lst (SqL.of h1) (RepDs.dp ds _ n h3)
  | .tuple ds, _, n, h => by cases h with | tuple h1 h2 => exact .tup h1 (RepDs.dp ds _ n h2)
  | .dict _, _, n, h => by cases n
theorem RepDs.dp {K : PySem.W.Frag} {η : List Addr} {H : Hp} : ∀ (xs : List PyData) (vs : List V), PyData.hasDictAll xs = false → RepDs K η H xs vs → DpAll K H vs xs
  | [], _, _, h => by cases h; exact .nil
  | x :: xs, _, n, h => by
    cases h with
    | cons h1 h2 =>
      have n2 : (PyData.hasDict x || PyData.hasDictAll xs) = false := n
      rw [Bool.or_eq_false_iff] at n2
      exact .cons (RepD.dp x _ n2.1 h1) (RepDs.dp xs _ n2.2 h2)
end
mutual
theorem asD_at {K : PySem.W.Frag} {η : List Addr} {H : Hp} {S : Store} (rp : Rp K η H S) : ∀ (w : W) (v : V) (x : PyData), asD w S = some x → x.hasDict = false → RepW K η H w v → Dp K H v x
  | .d y, v, x, e, n, r => by rw [asD] at e; cases e; cases r with | d r => exact RepD.dp _ _ n r
  | .loc l, v, x, e, n, r => by
    rw [asD] at e
    cases r with
    | loc r =>
      cases q : S[l]? with
      | none => rw [q] at e; cases e
      | some o =>
        rw [q] at e
        cases o with
        | lst ws =>
          cases e
          obtain ⟨vs, h1, h2⟩ := rp.all _ _ _ r q
          exact .lst (SqL.of h1) (RepDs.dp _ _ n h2)
        | dK _ => cases e
        | dT _ => cases e
  | .tp ws, v, x, e, n, r => by
    rw [asD] at e
    cases r with
    | tp h1 h2 =>
      cases q : asDs ws S with
      | none => rw [q] at e; cases e
      | some ds =>
        rw [q] at e
        cases e
        exact .tup h1 (asDs_at rp ws _ ds q n h2)
  | .fro _, v, x, e, n, r => by rw [asD] at e; cases e
theorem asDs_at {K : PySem.W.Frag} {η : List Addr} {H : Hp} {S : Store} (rp : Rp K η H S) : ∀ (ws : List W) (vs : List V) (xs : List PyData), asDs ws S = some xs → PyData.hasDictAll xs = false → RepWs K η H ws vs → DpAll K H vs xs
  | [], vs, xs, e, n, r => by rw [asDs] at e; cases e; cases r; exact .nil
  | w :: ws, vs, xs, e, n, r => by
    rw [asDs] at e
    cases r with
    | cons r1 r2 =>
      split at e
      · rename_i d ds e1 e2
        cases e
        have n2 : (PyData.hasDict d || PyData.hasDictAll ds) = false := n
        rw [Bool.or_eq_false_iff] at n2
        exact .cons (asD_at rp w _ d e1 n2.1 r1) (asDs_at rp ws _ ds e2 n2.2 r2)
      · cases e
end
theorem asD_ok {K : PySem.W.Frag} {η : List Addr} {H : Hp} {S : Store} {w : W} {v : V} {x : PyData} (e : asD w S = some x) (n : x.hasDict = false) (rp : Rp K η H S) (r : RepW K η H w v) : Dp K H v x := asD_at rp w v x e n r
theorem noD_of {x : PyData} (h : SeqAt.shaped x = true) : x.hasDict = false := PyData.hasDict_of_canLay _ (SeqAt.canLay_of_shaped h)
def gEqD (a b : W) (S : Store) : O := match asD a S, asD b S with
  | some x, some y => if SeqAt.shaped x = true ∧ SeqAt.shaped y = true then some (.d (.bool (PyData.eqv x y)), S) else none
  | _, _ => none
def gNeD (a b : W) (S : Store) : O := match asD a S, asD b S with
  | some x, some y => if SeqAt.shaped x = true ∧ SeqAt.shaped y = true then some (.d (.bool (!PyData.eqv x y)), S) else none
  | _, _ => none
/-- two texts, whatever their signs -/
def gEqS (a b : W) (S : Store) : O := match a, b with
  | .d (.str x), .d (.str y) => some (.d (.bool (x == y)), S)
  | _, _ => none
def gNeS (a b : W) (S : Store) : O := match a, b with
  | .d (.str x), .d (.str y) => some (.d (.bool (!(x == y))), S)
  | _, _ => none
def gEq (a b : W) (S : Store) : O := match gEqS a b S with
  | some o => some o
  | none => gEqD a b S
def gNe (a b : W) (S : Store) : O := match gNeS a b S with
  | some o => some o
  | none => gNeD a b S
theorem sim_eqS : OpR X (compareOp .Eq) (Sim2 X ct gEqS) := OpR.fit op_eq fun x y H Q ⟨η, S, wx, wy, rp, rx, ry, h⟩ => by
  unfold gEqS at h
  split at h
  · cases rx with
    | d rx =>
      cases ry with
      | d ry =>
        cases rx
        cases ry
        refine ⟨rfl, ?_⟩
        rw [dec_str]
        exact same_val rp (.d (.bool _)) h
  · exact h.elim
theorem sim_neS : OpR X (compareOp .NotEq) (Sim2 X ct gNeS) := OpR.fit op_ne fun x y H Q ⟨η, S, wx, wy, rp, rx, ry, h⟩ => by
  unfold gNeS at h
  split at h
  · cases rx with
    | d rx =>
      cases ry with
      | d ry =>
        cases rx
        cases ry
        refine ⟨rfl, ?_⟩
        rw [dec_str]
        exact same_val rp (.d (.bool _)) h
  · exact h.elim
theorem sim_eqD (hu : X.A.units + 64 < cLine) : OpR X (compareOp .Eq) (Sim2 X ct gEqD) := OpR.fit (op_eqD hu) fun x y H Q ⟨η, S, wx, wy, rp, rx, ry, h⟩ => by
  unfold gEqD at h
  split at h
  · rename_i d e e1 e2
    split at h
    · rename_i hs
      exact ⟨d, e, asD_ok e1 (noD_of hs.1) rp rx, asD_ok e2 (noD_of hs.2) rp ry, hs.1, hs.2, same_val rp (.d (.bool _)) h⟩
    · exact h.elim
  · exact h.elim
theorem sim_neD (hu : X.A.units + 64 < cLine) : OpR X (compareOp .NotEq) (Sim2 X ct gNeD) := OpR.fit (op_neD hu) fun x y H Q ⟨η, S, wx, wy, rp, rx, ry, h⟩ => by
  unfold gNeD at h
  split at h
  · rename_i d e e1 e2
    split at h
    · rename_i hs
      exact ⟨d, e, asD_ok e1 (noD_of hs.1) rp rx, asD_ok e2 (noD_of hs.2) rp ry, hs.1, hs.2, same_val rp (.d (.bool _)) h⟩
    · exact h.elim
  · exact h.elim
theorem sim_eq (hu : X.A.units + 64 < cLine) : OpR X (compareOp .Eq) (Sim2 X ct gEq) := OpR.orElse sim_eqS (sim_eqD hu)
theorem sim_ne (hu : X.A.units + 64 < cLine) : OpR X (compareOp .NotEq) (Sim2 X ct gNe) := OpR.orElse sim_neS (sim_neD hu)
/-- is None -/
def isNoneW : W → Bool
  | .d .none => true
  | _ => false
def gIsN (a b : W) (S : Store) : O := match b with
  | .d .none => some (.d (.bool (isNoneW a)), S)
  | _ => none
def gNotN (a b : W) (S : Store) : O := match b with
  | .d .none => some (.d (.bool (!isNoneW a)), S)
  | _ => none
theorem isNone_of {K : PySem.W.Frag} {η : List Addr} {H : Hp} {w : W} {v : V} (r : RepW K η H w v) : decide (v = .non) = isNoneW w := by
  cases r with
  | d r => cases r <;> simp [isNoneW]
  | loc _ => simp [isNoneW]
  | tp _ _ => simp [isNoneW]
  | fro _ _ => simp [isNoneW]
theorem sim_isN : OpR X (compareOp .Is) (Sim2 X ct gIsN) := OpR.fit op_isN fun x y H Q ⟨η, S, wx, wy, rp, rx, ry, h⟩ => by
  unfold gIsN at h
  split at h
  · cases ry with
    | d ry =>
      cases ry
      exact ⟨rfl, by rw [isNone_of rx]; exact same_val rp (.d (.bool _)) h⟩
  · exact h.elim
theorem sim_notN : OpR X (compareOp .IsNot) (Sim2 X ct gNotN) := OpR.fit op_notN fun x y H Q ⟨η, S, wx, wy, rp, rx, ry, h⟩ => by
  unfold gNotN at h
  split at h
  · cases ry with
    | d ry =>
      cases ry
      exact ⟨rfl, by rw [isNone_of rx]; exact same_val rp (.d (.bool _)) h⟩
  · exact h.elim
/-- in a list or tuple of flat things -/
def flatD : PyData → Bool
  | .none => true
  | .bool _ => true
  | .int _ => true
  | .str _ => true
  | _ => false
def asSeq (w : W) (S : Store) : Option (List PyData) :=
  match w with
  | .d (.list xs) => some xs
  | .d (.tuple xs) => some xs
  | .loc l => match S[l]? with
    | some (.lst ws) => some ws
    | _ => none
  | .fro xs => some xs
  | _ => none
theorem asSeq_ok {K : PySem.W.Frag} {η : List Addr} {H : Hp} {S : Store} {w : W} {v : V} {xs : List PyData} (e : asSeq w S = some xs) (rp : Rp K η H S) (r : RepW K η H w v) : ∃ a vs, v = .ref a ∧ (SqL K H a vs ∨ SqT K H a vs) ∧ RepDs K η H xs vs := by
  cases w with
  | d x =>
    cases r with
    | d r =>
      cases x <;> cases e
      · cases r with
        | list h1 h2 h3 => exact ⟨_, _, rfl, .inl (SqL.of h1), h3⟩
      · cases r with
        | tuple h1 h2 => exact ⟨_, _, rfl, .inr h1, h2⟩
  | loc l =>
    have e' : asL (.loc l) S = some xs := by
      cases q : S[l]? with
      | none => simp only [asSeq, q] at e; cases e
      | some o =>
        cases o with
        | lst ws => simp only [asSeq, q] at e; simp only [asL, q]; exact e
        | dK _ => simp only [asSeq, q] at e; cases e
        | dT _ => simp only [asSeq, q] at e; cases e
    obtain ⟨a, vs, h1, h2, h3⟩ := asL_ok e' rp r
    exact ⟨a, vs, h1, .inl (SqL.of h2), h3⟩
  | tp _ => cases e
  | fro _ =>
    cases e
    cases r with
    | fro h1 h2 => exact ⟨_, _, rfl, .inl h1.seq, h2⟩
theorem flat_of {K : PySem.W.Frag} {η : List Addr} {H : Hp} : ∀ {d : PyData} {v : V}, RepD K η H d v → flatD d = true → flatV v = true ∧ ∀ {e : PyData} {u : V}, RepD K η H e u → flatD e = true → eqV v u = PyData.eqv d e := by
  intro d v r f
  cases r with
  | none => exact ⟨rfl, fun {e u} r2 f2 => by cases r2 <;> first | rfl | cases f2⟩
  | bool b => exact ⟨rfl, fun {e u} r2 f2 => by cases r2 <;> first | rfl | cases f2⟩
  | int i => exact ⟨rfl, fun {e u} r2 f2 => by cases r2 <;> first | rfl | cases f2⟩
  | str x => exact ⟨rfl, fun {e u} r2 f2 => by cases r2 <;> first | rfl | cases f2⟩
  | list _ _ _ => cases f
  | tuple _ _ => cases f
  | dct _ _ => cases f
  | own _ _ _ => cases f
theorem flats_of {K : PySem.W.Frag} {η : List Addr} {H : Hp} {x : PyData} {v : V} (r : RepD K η H x v) (f : flatD x = true) : ∀ {ds : List PyData} {vs : List V}, RepDs K η H ds vs → ds.all flatD = true → vs.all flatV = true ∧ inV v vs = ds.any fun d => PyData.eqv d x
  | [], _, h, _ => by cases h; exact ⟨rfl, rfl⟩
  | d :: ds, _, h, a => by
    cases h with
    | cons h1 h2 =>
      rw [List.all_cons, Bool.and_eq_true] at a
      obtain ⟨i1, i2⟩ := flats_of r f h2 a.2
      obtain ⟨j1, j2⟩ := flat_of h1 a.1
      refine ⟨by rw [List.all_cons, j1, i1]; rfl, ?_⟩
      unfold inV at i2 ⊢
      rw [List.any_cons, List.any_cons, i2, j2 r f]
def gIn (neg : Bool) (a b : W) (S : Store) : O := match a, asSeq b S with
  | .d x, some xs => if flatD x = true ∧ xs.all flatD = true then some (.d (.bool (if neg then !xs.any (fun d => PyData.eqv d x) else xs.any fun d => PyData.eqv d x)), S) else none
  | _, _ => none
theorem sim_in : OpR X (compareOp .In) (Sim2 X ct (gIn false)) := OpR.fit op_in_seq fun x y H Q ⟨η, S, wx, wy, rp, rx, ry, h⟩ => by
  unfold gIn at h
  split at h
  · rename_i d xs e2
    obtain ⟨a, vs, rfl, h1, r1⟩ := asSeq_ok e2 rp ry
    cases rx with
    | d rx =>
      split at h
      · rename_i hf
        obtain ⟨i1, i2⟩ := flats_of rx hf.1 r1 hf.2
        exact ⟨a, vs, rfl, h1, (flat_of rx hf.1).1, i1, by rw [i2]; exact same_val rp (.d (.bool _)) h⟩
      · exact h.elim
  · exact h.elim
theorem sim_notIn : OpR X (compareOp .NotIn) (Sim2 X ct (gIn true)) := OpR.fit op_notIn_seq fun x y H Q ⟨η, S, wx, wy, rp, rx, ry, h⟩ => by
  unfold gIn at h
  split at h
  · rename_i d xs e2
    obtain ⟨a, vs, rfl, h1, r1⟩ := asSeq_ok e2 rp ry
    cases rx with
    | d rx =>
      split at h
      · rename_i hf
        obtain ⟨i1, i2⟩ := flats_of rx hf.1 r1 hf.2
        exact ⟨a, vs, rfl, h1, (flat_of rx hf.1).1, i1, by rw [i2]; exact same_val rp (.d (.bool _)) h⟩
      · exact h.elim
  · exact h.elim
end
end VI
set_option Elab.async false
set_option linter.all false
set_option maxRecDepth 100000
namespace VI
open PySem PySem.Spec PyProof.Rows L2

/-! subscripts -/
theorem atI_rep {K : PySem.W.Frag} {η : List Addr} {H : Hp} {ws : List W} {vs : List V} (r : RepWs K η H ws vs) {i : Int} {w : W} (e : atI ws i = some w) : ∃ v, atI vs i = some v ∧ RepW K η H w v := by
  unfold atI at e ⊢
  rw [← r.length]
  cases q : ixN ws.length i with
  | none => rw [q] at e; cases e
  | some j =>
    rw [q] at e
    obtain ⟨v, h1, h2⟩ := r.get (show ws[j]? = some w from e)
    exact ⟨v, h1, h2⟩
theorem atI_repD {K : PySem.W.Frag} {η : List Addr} {H : Hp} {ws : List PyData} {vs : List V} (r : RepDs K η H ws vs) {i : Int} {w : PyData} (e : atI ws i = some w) : ∃ v, atI vs i = some v ∧ RepD K η H w v := by
  unfold atI at e ⊢
  rw [← r.length]
  cases q : ixN ws.length i with
  | none => rw [q] at e; cases e
  | some j =>
    rw [q] at e
    obtain ⟨v, h1, h2⟩ := r.get (show ws[j]? = some w from e)
    exact ⟨v, h1, h2⟩
def gIx (a b : W) (S : Store) : O := match b with
  | .d (.int i) => match asSeq a S with
    | some xs => (atI xs i).map fun x => (.d x, S)
    | none => match a with
      | .tp ws => (atI ws i).map fun w => (w, S)
      | .d (.str z) => if z.length ≤ lim then (atI z.cps.toList i).map fun c => (.d (.str ⟨#[c]⟩), S) else none
      | _ => none
  | _ => none
section
variable {X : Cx} {ct : Nat → Option Addr} {E : EX}
theorem ix_any : IxR X (Sim2 X ct gIx) := by
  intro value slice pins s σ H x y v u Q I rx ry ⟨η, S, wx, wy, rp, r1, r2, q⟩ hs
  refine ix_seq value slice pins s σ H x y v u Q I rx ry ?_ hs
  unfold gIx at q
  split at q
  · rename_i i
    cases r2 with
    | d r2 =>
      cases r2
      split at q
      · rename_i ws e
        obtain ⟨a, vs, rfl, h1, h2⟩ := asSeq_ok e rp r1
        cases e2 : atI ws i with
        | none => rw [e2] at q; exact q.elim
        | some w =>
          rw [e2] at q
          obtain ⟨v', g1, g2⟩ := atI_repD h2 e2
          rcases h1 with h1 | h1
          · exact .inl ⟨a, vs, i, v', rfl, rfl, h1, g1, same_val rp (.d g2) q⟩
          · exact .inr (.inl ⟨a, vs, i, v', rfl, rfl, h1, g1, same_val rp (.d g2) q⟩)
      · split at q
        · rename_i ws _
          cases r1 with
          | tp h1 h2 =>
            cases e2 : atI ws i with
            | none => rw [e2] at q; exact q.elim
            | some w =>
              rw [e2] at q
              obtain ⟨v', g1, g2⟩ := atI_rep h2 e2
              exact .inr (.inl ⟨_, _, i, v', rfl, rfl, h1, g1, same_val rp g2 q⟩)
        · rename_i z _
          cases r1 with
          | d r1 =>
            cases r1
            split at q
            · rename_i hz
              cases e2 : atI z.cps.toList i with
              | none => rw [e2] at q; exact q.elim
              | some c =>
                rw [e2] at q
                exact .inr (.inr ⟨z, i, c, rfl, rfl, lim_ok hz, e2, same_val rp (.d (.str _)) q⟩)
            · exact q.elim
        · exact q.elim
  · exact q.elim
theorem i_ix {a b : Expr} {fa fb : FE} {pos : Pos} (ha : PE X a (tF (gx X ct) E fa)) (hb : PE X b (tF (gx X ct) E fb)) (hs : PlainIx b := by intro _ _; rfl) : PE X (.Subscript a b pos) (tF (gx X ct) E (f2 gIx fa fb)) :=
  PEw (pe_ix ix_any ha hb hs) (get2 fun _ _ _ _ h => h)

/-! slices -/
abbrev FO := Rho → Store → R (Option Int)
abbrev relO : Option Int → List Addr → Hp → Option Int → Prop := fun o _ _ v => v = o
def tO (G : Gc) (E : EX) (f : FO) : TO := fun σ H Q => ∃ η ρ S, Rp G.K η H S ∧ ERep G.K η H ρ σ ∧ FinR G relO (E σ) η H (f ρ S) Q
def fNoPart : FO := fun _ S => .ok none S
def intOf (w : W) (S : Store) : R (Option Int) := match w with
  | .d (.int i) => .ok (some i) S
  | _ => .bad
def fPart (a : FE) : FO := fun ρ S => (a ρ S).bind intOf
theorem POw {e : Option Expr} {t t' : TO} (h : PO X e t) (i : ∀ σ H Q, t' σ H Q → t σ H Q) : PO X e t' := ⟨fun pins s σ H Q I q => h.run pins s σ H Q I (i σ H Q q)⟩
theorem o_none : PO X none (tO (gx X ct) E fNoPart) := POw po_none fun σ H Q ⟨η, ρ, S, rp, er, h⟩ => h η H none (Fu.refl _ _) rp rfl
theorem o_some {e : Expr} {f : FE} (h : PE X e (tF (gx X ct) E f)) : PO X (some e) (tO (gx X ct) E (fPart f)) := POw (po_some h) fun σ H Q ⟨η, ρ, S, rp, er, h⟩ =>
  ⟨η, ρ, S, rp, er, FinR.mono (FinR.bind h) fun v H1 ⟨η1, w, S1, f, rp1, r1, h1⟩ => by
    unfold intOf at h1
    split at h1
    · cases r1 with
      | d r1 => cases r1; exact ⟨_, rfl, h1 η1 H1 _ (Fu.refl _ _) rp1 rfl⟩
    · exact h1.elim⟩
def cutG {α : Type} (xs : List α) (lo hi : Option Int) : List α := (xs.drop (HT.sIx xs.length 0 lo)).take (HT.sIx xs.length xs.length hi - HT.sIx xs.length 0 lo)
theorem cut_rep {K : PySem.W.Frag} {η : List Addr} {H : Hp} {ws : List W} {vs : List V} (r : RepWs K η H ws vs) (lo hi : Option Int) : RepWs K η H (cutG ws lo hi) (cutV vs lo hi) := by
  unfold cutG cutV
  rw [← r.length]
  exact (r.drop _).take _
theorem cutG_all {α : Type} (xs : List α) (lo hi : Option Int) (h : HT.sIx xs.length 0 lo = 0 ∧ HT.sIx xs.length xs.length hi = xs.length) : cutG xs lo hi = xs := by
  unfold cutG
  rw [h.1, h.2, List.drop_zero, Nat.sub_zero, List.take_length]
theorem cut_repD {K : PySem.W.Frag} {η : List Addr} {H : Hp} {ws : List PyData} {vs : List V} (r : RepDs K η H ws vs) (lo hi : Option Int) : RepDs K η H (cutG ws lo hi) (cutV vs lo hi) := by
  unfold cutG cutV
  rw [← r.length]
  exact (r.drop _).take _
def gSl (a : W) (lo hi : Option Int) (S : Store) : O := match a with
  | .tp ws => some (mkT (cutG ws lo hi), S)
  | .d (.tuple xs) => some (.d (.tuple (cutG xs lo hi)), S)
  | a => match asSeq a S with
    | some xs => some (.d (.list (cutG xs lo hi)), S)
    | none => none
def SimS (X : Cx) (ct : Nat → Option Addr) (g : W → Option Int → Option Int → Store → O) : V → Option Int → Option Int → Hp → VK → Prop := fun x lo hi H Q => ∃ η S wx, Rp X.K η H S ∧ RepW X.K η H wx x ∧ FinO (gx X ct) η H (g wx lo hi S) Q
/-- a list of the heap, where it is no tuple -/
theorem asSeq_list {K : PySem.W.Frag} {η : List Addr} {H : Hp} {S : Store} {w : W} {v : V} {xs : List PyData} (e : asSeq w S = some xs) (n : ∀ ys, w ≠ .d (.tuple ys)) (rp : Rp K η H S) (r : RepW K η H w v) : ∃ a vs, v = .ref a ∧ SqL K H a vs ∧ RepDs K η H xs vs := by
  cases w with
  | d x =>
    cases r with
    | d r =>
      cases x <;> cases e
      · cases r with
        | list h1 h2 h3 => exact ⟨_, _, rfl, SqL.of h1, h3⟩
      · exact absurd rfl (n _)
  | loc l =>
    cases r with
    | loc r =>
      cases q : S[l]? with
      | none => simp only [asSeq, q] at e; cases e
      | some o =>
        cases o with
        | lst ws =>
          simp only [asSeq, q] at e
          cases e
          obtain ⟨vs, h1, h2⟩ := rp.all _ _ _ r q
          exact ⟨_, vs, rfl, SqL.of h1, h2⟩
        | dK _ => simp only [asSeq, q] at e; cases e
        | dT _ => simp only [asSeq, q] at e; cases e
  | tp _ => cases e
  | fro _ =>
    cases e
    cases r with
    | fro h1 h2 => exact ⟨_, _, rfl, h1.seq, h2⟩
theorem sl_any : SlR X (SimS X ct gSl) := by
  intro pins s σ H x v vl vu lo hi sl Q I rx hs pl pu ⟨η, S, wx, rp, r1, q⟩
  refine (sl_list.or sl_tupA) pins s σ H x v vl vu lo hi sl Q I rx hs pl pu ?_
  unfold gSl at q
  split at q
  · rename_i ws
    cases r1 with
    | tp h1 h2 =>
      refine .inr ⟨_, _, rfl, h1, fun hw => ?_, fun _ => new_mkT rp (cut_rep h2 lo hi) q⟩
      rw [← h2.length] at hw
      rw [cutG_all ws lo hi hw] at q
      exact same_mkT rp h1 h2 q
  · rename_i xs
    cases r1 with
    | d r1 =>
      cases r1 with
      | tuple h1 h2 =>
        refine .inr ⟨_, _, rfl, h1, fun hw => ?_, fun _ => new_tup rp (cut_repD h2 lo hi) q⟩
        rw [← h2.length] at hw
        rw [cutG_all xs lo hi hw] at q
        exact same_val rp (.d (.tuple h1 h2)) q
  · rename_i n2
    split at q
    · rename_i ws e
      obtain ⟨a, vs, rfl, h1, h2⟩ := asSeq_list e (fun ys e => n2 ys e) rp r1
      exact .inl ⟨a, vs, rfl, h1, new_list rp (cut_repD h2 lo hi) q⟩
    · exact q.elim
def fSl (g : W → Option Int → Option Int → Store → O) (a : FE) (lo hi : FO) : FE := fun ρ S => (a ρ S).bind fun x S1 => (lo ρ S1).bind fun l S2 => (hi ρ S2).bind fun u S3 => lift (g x l u S3)
theorem i_sl {e : Expr} {lo hi : Option Expr} {fe : FE} {fl fh : FO} {pos p2 : Pos} (he : PE X e (tF (gx X ct) E fe)) (hl : PO X lo (tO (gx X ct) E fl)) (hu : PO X hi (tO (gx X ct) E fh)) : PE X (.Subscript e (.Slice lo hi none p2) pos) (tF (gx X ct) E (fSl gSl fe fl fh)) :=
  PEw (pe_slice sl_any he hl hu) fun σ H Q ⟨η, ρ, S, rp, er, h⟩ =>
    ⟨η, ρ, S, rp, er, FinR.mono (FinR.bind h) fun v H1 ⟨η1, w, S1, f, rp1, r1, h1⟩ =>
      ⟨η1, ρ, S1, rp1, er.fu f, FinR.mono (FinR.bind h1) fun v2 H2 ⟨η2, l, S2, f2, rp2, r2, h2⟩ =>
        ⟨η2, ρ, S2, rp2, (er.fu f).fu f2, FinR.mono (FinR.bind h2) fun v3 H3 ⟨η3, u, S3, f3, rp3, r3, h3⟩ => by
          obtain rfl : v2 = l := r2
          obtain rfl : v3 = u := r3
          exact ⟨η3, S3, w, rp3, RepW.fu f3 _ _ (RepW.fu f2 _ _ r1), lift_ok h3⟩⟩⟩⟩

/-! argument lists, displays -/
def fA0 : FA := fun _ S => .ok [] S
def fAc (a : FE) (r : FA) : FA := fun ρ S => (a ρ S).bind fun x S1 => (r ρ S1).bind fun xs S2 => .ok (x :: xs) S2
theorem a0 : PA X [] (tA (gx X ct) E fA0) := PAw pa_nil fun σ H Q ⟨η, ρ, S, rp, er, h⟩ => h η H [] (Fu.refl _ _) rp .nil
theorem ac {e : Expr} {es : List Expr} {fa : FE} {fr : FA} (ha : PE X e (tF (gx X ct) E fa)) (hr : PA X es (tA (gx X ct) E fr)) (hs : starEach (e :: es) X.env = (false, eval e X.env) :: starEach es X.env := by rfl) : PA X (e :: es) (tA (gx X ct) E (fAc fa fr)) :=
  PAw (pa_cons ha hr hs) fun σ H Q ⟨η, ρ, S, rp, er, h⟩ =>
    ⟨η, ρ, S, rp, er, FinR.mono (FinR.bind h) fun v H1 ⟨η1, w, S1, f, rp1, r1, h1⟩ =>
      ⟨η1, ρ, S1, rp1, er.fu f, FinR.mono (FinR.bind h1) fun v2 H2 ⟨η2, l, S2, f2, rp2, r2, h2⟩ => h2 η2 H2 _ (Fu.refl _ _) rp2 (.cons (RepW.fu f2 _ _ r1) r2)⟩⟩
/-- what is done with values -/
def fL (g : List W → Store → O) (a : FA) : FE := fun ρ S => (a ρ S).bind fun ws S1 => lift (g ws S1)
def SimL (X : Cx) (ct : Nat → Option Addr) (g : List W → Store → O) : List V → Hp → VK → Prop := fun xs H Q => ∃ η S ws, Rp X.K η H S ∧ RepWs X.K η H ws xs ∧ FinO (gx X ct) η H (g ws S) Q
theorem getL {a : FA} {g : List W → Store → O} {r : List V → Hp → VK → Prop} (hr : ∀ x H Q, SimL X ct g x H Q → r x H Q) : ∀ σ H Q, tF (gx X ct) E (fL g a) σ H Q → tA (gx X ct) E a σ H fun x H1 => r x H1 Q := fun σ H Q ⟨η, ρ, S, rp, er, h⟩ =>
  ⟨η, ρ, S, rp, er, FinR.mono (FinR.bind h) fun v H1 ⟨η1, w, S1, f, rp1, r1, h1⟩ => hr _ _ _ ⟨η1, S1, w, rp1, r1, lift_ok h1⟩⟩
def gTup (ws : List W) (S : Store) : O := if ws.length ≤ lim then some (mkT ws, S) else none
def gLst (ws : List W) (S : Store) : O := if ws.length ≤ lim then (datas ws).map fun ds => (.d (.list ds), S) else none
def gLive (ws : List W) (S : Store) : O := if ws.length ≤ lim then (datas ws).map fun ds => (.loc S.length, S ++ [.lst ds]) else none
theorem i_tup {es : List Expr} {fa : FA} {x1 pos} (h : PA X es (tA (gx X ct) E fa)) : PE X (.Tuple es x1 pos) (tF (gx X ct) E (fL gTup fa)) := PEw (pe_tup h) (getL (r := fun xs H Q => xs.length ≤ sizeLine ∧ ∀ p, H p = none → Q (.ref p) (upd H p (.tup xs))) fun x H Q ⟨η, S, ws, rp, r, q⟩ => by
  unfold gTup at q
  split at q
  · rename_i hz
    exact ⟨lim_ok (by rw [← r.length]; exact hz), new_mkT rp r q⟩
  · exact q.elim)
theorem i_lst {es : List Expr} {fa : FA} {pos} (h : PA X es (tA (gx X ct) E fa)) : PE X (.List es pos) (tF (gx X ct) E (fL gLst fa)) := PEw (pe_lst h) (getL (r := fun xs H Q => xs.length ≤ sizeLine ∧ ∀ p, H p = none → Q (.ref p) (upd H p (.lst xs))) fun x H Q ⟨η, S, ws, rp, r, q⟩ => by
  unfold gLst at q
  split at q
  · rename_i hz
    cases e : datas ws with
    | none => rw [e] at q; exact q.elim
    | some ds => rw [e] at q; exact ⟨lim_ok (by rw [← r.length]; exact hz), new_list rp (datas_ok e r) q⟩
  · exact q.elim)
theorem i_live {es : List Expr} {fa : FA} {pos} (h : PA X es (tA (gx X ct) E fa)) : PE X (.List es pos) (tF (gx X ct) E (fL gLive fa)) := PEw (pe_lst h) (getL (r := fun xs H Q => xs.length ≤ sizeLine ∧ ∀ p, H p = none → Q (.ref p) (upd H p (.lst xs))) fun x H Q ⟨η, S, ws, rp, r, q⟩ => by
  unfold gLive at q
  split at q
  · rename_i hz
    cases e : datas ws with
    | none => rw [e] at q; exact q.elim
    | some ds => rw [e] at q; exact ⟨lim_ok (by rw [← r.length]; exact hz), new_live rp (datas_ok e r) q⟩
  · exact q.elim)

/-! tests -/
def boolW (w : W) (S : Store) : R Bool := match w with
  | .d (.bool b) => .ok b S
  | _ => .bad
def fTest (a : FE) : FT := fun ρ S => (a ρ S).bind boolW
theorem t_val {e : Expr} {f : FE} (h : PE X e (tF (gx X ct) E f)) (he : ∀ whole, isTrue e X.env whole = (do let v ← whole; standAt e.pos; holding [v] (truthy v)) := by intro _; rfl) : PT X e (tT (gx X ct) E (fTest f)) := PTw (pt_val h he) fun σ H Q ⟨η, ρ, S, rp, er, h⟩ =>
  ⟨η, ρ, S, rp, er, FinR.mono (FinR.bind h) fun v H1 ⟨η1, w, S1, f, rp1, r1, h1⟩ => by
    unfold boolW at h1
    split at h1
    · cases r1 with
      | d r1 => cases r1; exact ⟨_, rfl, h1 η1 H1 _ (Fu.refl _ _) rp1 rfl⟩
    · exact h1.elim⟩
theorem t_cmp {op : CmpOp} {g : W → W → Store → O} {a b : Expr} {fa fb : FE} {pos : Pos} (ho : OpR X (compareOp op) (Sim2 X ct g)) (ha : PE X a (tF (gx X ct) E fa)) (hb : PE X b (tF (gx X ct) E fb)) (hm : behindInMarks op b = false) :
    PT X (.Compare a [op] [b] pos) (tT (gx X ct) E (fTest (f2 g fa fb))) := PTw (pt_cmpR ho ha hb hm) fun σ H Q ⟨η, ρ, S, rp, er, h⟩ => by
  have key : tF (gx X ct) E (f2 g fa fb) σ H fun x H' => ∃ k, x = .bl k ∧ Q k H' := ⟨η, ρ, S, rp, er, FinR.mono (FinR.bind h) fun v H1 ⟨η1, w, S1, f, rp1, r1, h1⟩ => by
    unfold boolW at h1
    split at h1
    · cases r1 with
      | d r1 => cases r1; exact ⟨_, rfl, h1 η1 H1 _ (Fu.refl _ _) rp1 rfl⟩
    · exact h1.elim⟩
  exact get2 (fun _ _ _ _ h => h) σ H _ key
/-- a value's truth -/
def truW (w : W) (S : Store) : Option Bool := match w with
  | .d .none => some false
  | .d (.bool b) => some b
  | .d (.int i) => some (i != 0)
  | .d (.str y) => if y.length ≤ lim then some ((y.length : Int) != 0) else none
  | .tp ws => some (!ws.isEmpty)
  | w => match asSeq w S with
    | some ws => some (!ws.isEmpty)
    | none => none
theorem isEmpty_rep {K : PySem.W.Frag} {η : List Addr} {H : Hp} {ws : List W} {vs : List V} (r : RepWs K η H ws vs) : (!ws.isEmpty) = !vs.isEmpty := by
  cases r <;> rfl
theorem isEmpty_repD {K : PySem.W.Frag} {η : List Addr} {H : Hp} {ws : List PyData} {vs : List V} (r : RepDs K η H ws vs) : (!ws.isEmpty) = !vs.isEmpty := by
  cases r <;> rfl
theorem truW_ok {K : PySem.W.Frag} {η : List Addr} {H : Hp} {S : Store} {w : W} {v : V} {b : Bool} (e : truW w S = some b) (rp : Rp K η H S) (r : RepW K η H w v) : TruV K v H b := by
  unfold truW at e
  split at e
  · cases r with | d r => cases r; cases e; rfl
  · cases r with | d r => cases r; cases e; rfl
  · cases r with | d r => cases r; cases e; rfl
  · cases r with
    | d r =>
      cases r
      split at e
      · rename_i hz
        cases e
        exact ⟨lim_ok hz, rfl⟩
      · cases e
  · cases r with
    | tp h1 h2 => cases e; exact .inr (.inl ⟨_, h1, isEmpty_rep h2⟩)
  · split at e
    · rename_i ws e1
      obtain ⟨a, vs, rfl, h1, h2⟩ := asSeq_ok e1 rp r
      cases e
      rcases h1 with h1 | h1
      · exact .inl ⟨vs, h1, isEmpty_repD h2⟩
      · exact .inr (.inl ⟨vs, h1, isEmpty_repD h2⟩)
    · cases e
def truR (w : W) (S : Store) : R Bool := match truW w S with
  | some b => .ok b S
  | none => .bad
def fTru (a : FE) : FT := fun ρ S => (a ρ S).bind truR
theorem t_tru {e : Expr} {f : FE} (h : PE X e (tF (gx X ct) E f)) (he : ∀ whole, isTrue e X.env whole = (do let v ← whole; standAt e.pos; holding [v] (truthy v)) := by intro _; rfl) : PT X e (tT (gx X ct) E (fTru f)) := PTw (pt_truth h he) fun σ H Q ⟨η, ρ, S, rp, er, h⟩ =>
  ⟨η, ρ, S, rp, er, FinR.mono (FinR.bind h) fun v H1 ⟨η1, w, S1, f, rp1, r1, h1⟩ => by
    unfold truR at h1
    split at h1
    · rename_i b e
      exact ⟨b, truW_ok e rp1 r1, h1 η1 H1 _ (Fu.refl _ _) rp1 rfl⟩
    · exact h1.elim⟩
def fAndT (a b : FT) : FT := fun ρ S => (a ρ S).bind fun c S1 => if c = true then b ρ S1 else .ok false S1
def fOrT (a b : FT) : FT := fun ρ S => (a ρ S).bind fun c S1 => if c = true then .ok true S1 else b ρ S1
def fNotT (a : FT) : FT := fun ρ S => (a ρ S).bind fun c S1 => .ok (!c) S1
theorem w_and1 {a : Expr} {f : FT} {pos : Pos} (h : PT X a (tT (gx X ct) E f)) : PW X (.BoolOp .And [a] pos) (tT (gx X ct) E f) := pw_and1 h
theorem w_or1 {a : Expr} {f : FT} {pos : Pos} (h : PT X a (tT (gx X ct) E f)) : PW X (.BoolOp .Or [a] pos) (tT (gx X ct) E f) := pw_or1 h
theorem w_and {a b : Expr} {rest : List Expr} {f g : FT} {pos : Pos} (h : PT X a (tT (gx X ct) E f)) (h2 : PW X (.BoolOp .And (b :: rest) pos) (tT (gx X ct) E g)) : PW X (.BoolOp .And (a :: b :: rest) pos) (tT (gx X ct) E (fAndT f g)) :=
  PWw (pw_and h h2) fun σ H Q ⟨η, ρ, S, rp, er, h⟩ => ⟨η, ρ, S, rp, er, FinR.mono (FinR.bind h) fun v H1 ⟨η1, w, S1, f, rp1, r1, h1⟩ => by
    obtain rfl : v = w := r1
    by_cases hc : v = true
    · rw [if_pos hc] at h1 ⊢; exact ⟨η1, ρ, S1, rp1, er.fu f, h1⟩
    · rw [if_neg hc] at h1 ⊢; exact h1 η1 H1 _ (Fu.refl _ _) rp1 rfl⟩
theorem w_or {a b : Expr} {rest : List Expr} {f g : FT} {pos : Pos} (h : PT X a (tT (gx X ct) E f)) (h2 : PW X (.BoolOp .Or (b :: rest) pos) (tT (gx X ct) E g)) : PW X (.BoolOp .Or (a :: b :: rest) pos) (tT (gx X ct) E (fOrT f g)) :=
  PWw (pw_or h h2) fun σ H Q ⟨η, ρ, S, rp, er, h⟩ => ⟨η, ρ, S, rp, er, FinR.mono (FinR.bind h) fun v H1 ⟨η1, w, S1, f, rp1, r1, h1⟩ => by
    obtain rfl : v = w := r1
    by_cases hc : v = true
    · rw [if_pos hc] at h1 ⊢; exact h1 η1 H1 _ (Fu.refl _ _) rp1 rfl
    · rw [if_neg hc] at h1 ⊢; exact ⟨η1, ρ, S1, rp1, er.fu f, h1⟩⟩
theorem t_not {a : Expr} {f : FT} {pos : Pos} (h : PT X a (tT (gx X ct) E f)) : PT X (.UnaryOp .Not a pos) (tT (gx X ct) E (fNotT f)) :=
  PTw (pt_not h) fun σ H Q ⟨η, ρ, S, rp, er, h⟩ => ⟨η, ρ, S, rp, er, FinR.mono (FinR.bind h) fun v H1 ⟨η1, w, S1, f, rp1, r1, h1⟩ => by
    obtain rfl : v = w := r1
    exact h1 η1 H1 _ (Fu.refl _ _) rp1 rfl⟩
/-- as values -/
def fAndV (a b : FE) : FE := fun ρ S => (a ρ S).bind fun w S1 => match w with
  | .d (.bool true) => b ρ S1
  | .d (.bool false) => .ok (.d (.bool false)) S1
  | _ => .bad
def fOrV (a b : FE) : FE := fun ρ S => (a ρ S).bind fun w S1 => match w with
  | .d (.bool true) => .ok (.d (.bool true)) S1
  | .d (.bool false) => b ρ S1
  | _ => .bad
def gNot (w : W) (S : Store) : O := match w with
  | .d (.bool b) => some (.d (.bool (!b)), S)
  | _ => none
theorem i_one {a : Expr} {op : BoolOp} {f : FE} {pos : Pos} (h : PE X a (tF (gx X ct) E f)) : PE X (.BoolOp op [a] pos) (tF (gx X ct) E f) := pe_one h
theorem i_and {a b : Expr} {rest : List Expr} {f g : FE} {pos : Pos} (h : PE X a (tF (gx X ct) E f)) (h2 : PE X (.BoolOp .And (b :: rest) pos) (tF (gx X ct) E g)) : PE X (.BoolOp .And (a :: b :: rest) pos) (tF (gx X ct) E (fAndV f g)) :=
  PEw (pe_and h h2) fun σ H Q ⟨η, ρ, S, rp, er, h⟩ => ⟨η, ρ, S, rp, er, FinR.mono (FinR.bind h) fun v H1 ⟨η1, w, S1, f, rp1, r1, h1⟩ => by
    split at h1
    · cases r1 with | d r1 => cases r1; exact ⟨true, rfl, iteT ⟨η1, ρ, S1, rp1, er.fu f, h1⟩⟩
    · cases r1 with | d r1 => cases r1; exact ⟨false, rfl, iteF (h1 η1 H1 _ (Fu.refl _ _) rp1 (.d (.bool _)))⟩
    · exact h1.elim⟩
theorem i_or {a b : Expr} {rest : List Expr} {f g : FE} {pos : Pos} (h : PE X a (tF (gx X ct) E f)) (h2 : PE X (.BoolOp .Or (b :: rest) pos) (tF (gx X ct) E g)) : PE X (.BoolOp .Or (a :: b :: rest) pos) (tF (gx X ct) E (fOrV f g)) :=
  PEw (pe_or h h2) fun σ H Q ⟨η, ρ, S, rp, er, h⟩ => ⟨η, ρ, S, rp, er, FinR.mono (FinR.bind h) fun v H1 ⟨η1, w, S1, f, rp1, r1, h1⟩ => by
    split at h1
    · cases r1 with | d r1 => cases r1; exact ⟨true, rfl, iteT (h1 η1 H1 _ (Fu.refl _ _) rp1 (.d (.bool _)))⟩
    · cases r1 with | d r1 => cases r1; exact ⟨false, rfl, iteF ⟨η1, ρ, S1, rp1, er.fu f, h1⟩⟩
    · exact h1.elim⟩
theorem i_not {a : Expr} {f : FE} {pos : Pos} (h : PE X a (tF (gx X ct) E f)) : PE X (.UnaryOp .Not a pos) (tF (gx X ct) E (f1 gNot f)) :=
  PEw (pe_not h) (get1 (r := fun x H Q => ∃ c, x = .bl c ∧ Q (.bl (!c)) H) fun x H Q ⟨η, S, wx, rp, rx, q⟩ => by
    unfold gNot at q
    split at q
    · cases rx with | d rx => cases rx; exact ⟨_, rfl, same_val rp (.d (.bool _)) q⟩
    · exact q.elim)
def fIfE (t : FT) (a b : FE) : FE := fun ρ S => (t ρ S).bind fun c S1 => if c = true then a ρ S1 else b ρ S1
theorem i_ife {c a b : Expr} {t : FT} {f g : FE} {pos : Pos} (hc : PT X c (tT (gx X ct) E t)) (ha : PE X a (tF (gx X ct) E f)) (hb : PE X b (tF (gx X ct) E g)) : PE X (.IfExp c a b pos) (tF (gx X ct) E (fIfE t f g)) :=
  PEw (pe_ifExp hc ha hb) fun σ H Q ⟨η, ρ, S, rp, er, h⟩ => ⟨η, ρ, S, rp, er, FinR.mono (FinR.bind h) fun v H1 ⟨η1, w, S1, f, rp1, r1, h1⟩ => by
    obtain rfl : v = w := r1
    by_cases hc : v = true
    · rw [if_pos hc] at h1 ⊢; exact ⟨η1, ρ, S1, rp1, er.fu f, h1⟩
    · rw [if_neg hc] at h1 ⊢; exact ⟨η1, ρ, S1, rp1, er.fu f, h1⟩⟩
/-- a op b op c -/
def fChain (g g' : W → W → Store → O) (a b c : FE) : FE := fun ρ S => (a ρ S).bind fun x S1 => (b ρ S1).bind fun y S2 => (lift (g x y S2)).bind fun k S3 => match k with
  | .d (.bool true) => (c ρ S3).bind fun z S4 => lift (g' y z S4)
  | .d (.bool false) => .ok (.d (.bool false)) S3
  | _ => .bad
theorem i_chain {op op' : CmpOp} {g g' : W → W → Store → O} {a b c : Expr} {fa fb fc : FE} {pos : Pos} (ho : OpR X (compareOp op) (Sim2 X ct g)) (ho' : OpR X (compareOp op') (Sim2 X ct g')) (ha : PE X a (tF (gx X ct) E fa)) (hb : PE X b (tF (gx X ct) E fb)) (hc : PE X c (tF (gx X ct) E fc))
    (hm : lastMarks [op, op'] [b, c] = false := by with_unfolding_all rfl) : PE X (.Compare a [op, op'] [b, c] pos) (tF (gx X ct) E (fChain g g' fa fb fc)) := PEw (pe_chain ho ho' ha hb hc hm) fun σ H Q ⟨η, ρ, S, rp, er, h⟩ =>
  ⟨η, ρ, S, rp, er, FinR.mono (FinR.bind h) fun v H1 ⟨η1, w, S1, f, rp1, r1, h1⟩ =>
    ⟨η1, ρ, S1, rp1, er.fu f, FinR.mono (FinR.bind h1) fun v2 H2 ⟨η2, w2, S2, f2, rp2, r2, h2⟩ => ⟨η2, S2, w, w2, rp2, RepW.fu f2 _ _ r1, r2, by
      have r1' := RepW.fu f2 _ _ r1
      refine FinO.mono (lift_ok (FinR.bind (rel := relW (gx X ct)) h2)) fun z H3 ⟨η3, k, S3, f3, rp3, r3, h3⟩ => ?_
      split at h3
      · cases r3 with
        | d r3 =>
          cases r3
          exact ⟨true, rfl, iteT ⟨η3, ρ, S3, rp3, ((er.fu f).fu f2).fu f3, FinR.mono (FinR.bind h3) fun v4 H4 ⟨η4, w4, S4, f4, rp4, r4, h4⟩ => ⟨η4, S4, w2, w4, rp4, RepW.fu f4 _ _ (RepW.fu f3 _ _ r2), r4, lift_ok h4⟩⟩⟩
      · cases r3 with
        | d r3 =>
          cases r3
          exact ⟨false, rfl, iteF (h3 η3 H3 _ (Fu.refl _ _) rp3 (.d (.bool _)))⟩
      · exact h3.elim⟩⟩⟩
end
end VI
set_option Elab.async false
set_option linter.all false
set_option maxRecDepth 100000
namespace VI
open PySem PySem.Spec PyProof.Rows L2

/-! what a call hands back, without live objects of its own -/
mutual
def frzW (n : Nat) (S : Store) : W → Option W
  | .d x => some (.d x)
  | .fro x => some (.fro x)
  | .loc l => if l < n then some (.loc l) else match S[l]? with
    | some (.lst ds) => some (.d (.list ds))
    | _ => none
  | .tp ws => (frzWs n S ws).map mkT
def frzWs (n : Nat) (S : Store) : List W → Option (List W)
  | [] => some []
  | w :: ws => match frzW n S w, frzWs n S ws with
    | some w', some ws' => some (w' :: ws')
    | _, _ => none
end
def frz (n : Nat) (r : R W) : R W := match r with
  | .ok w S => match frzW n S w with
    | some w' => .ok w' (S.take n)
    | none => .bad
  | .exc c fs S => match frzWs n S (fs.map (·.2)) with
    | some ws => .exc c ((fs.map (·.1)).zip ws) (S.take n)
    | none => .bad
  | .bad => .bad
section
variable {K : PySem.W.Frag} {η η' : List Addr} {H H' : Hp} {S S' : Store}
mutual
theorem RepD.sub (h : ∀ a ∈ η, a ∈ η') : ∀ (x : PyData) (v : V), RepD K η' H x v → RepD K η H x v
  | .none, _, r => by cases r; exact .none
  | .bool _, _, r => by cases r; exact .bool _
  | .int _, _, r => by cases r; exact .int _
  | .str _, _, r => by cases r; exact .str _
  | .list ds, _, r => by cases r with | list h1 h2 h3 => exact .list h1 (fun m => h2 (h _ m)) (RepDs.sub h ds _ h3)
  | .tuple ds, _, r => by cases r with | tuple h1 h2 => exact .tuple h1 (RepDs.sub h ds _ h2)
  | .dict _, _, r => by
    cases r with
    | dct h1 h2 => exact .dct h1 (fun m => h2 (h _ m))
    | own h1 h2 h3 => exact .own h1 (fun m => h2 (h _ m)) h3
theorem RepDs.sub (h : ∀ a ∈ η, a ∈ η') : ∀ (xs : List PyData) (vs : List V), RepDs K η' H xs vs → RepDs K η H xs vs
  | [], _, r => by cases r; exact .nil
  | x :: xs, _, r => by cases r with | cons h1 h2 => exact .cons (RepD.sub h x _ h1) (RepDs.sub h xs _ h2)
end
theorem RepWs.mk {a : Addr} {ws : List W} {vs : List V} (ha : SqT K H a vs) (r : RepWs K η H ws vs) : RepW K η H (mkT ws) (.ref a) := by
  unfold mkT
  cases q : datas ws with
  | some ds => exact .d (.tuple ha (datas_ok q r))
  | none => exact .tp ha r
mutual
theorem frzW_ok (rp : Rp K (η ++ η') H S) : ∀ (w w' : W) (v : V), frzW η.length S w = some w' → RepW K (η ++ η') H w v → RepW K η H w' v
  | .d x, w', v, e, r => by cases e; cases r with | d r => exact .d (RepD.sub (fun a m => List.mem_append_left _ m) _ _ r)
  | .fro x, w', v, e, r => by cases e; cases r with | fro h1 h2 => exact .fro h1 (RepDs.sub (fun a m => List.mem_append_left _ m) _ _ h2)
  | .loc l, w', v, e, r => by
    cases r with
    | loc r =>
      rw [frzW] at e
      by_cases hl : l < η.length
      · rw [if_pos hl] at e
        cases e
        rw [List.getElem?_append_left hl] at r
        exact .loc r
      · rw [if_neg hl] at e
        cases q : S[l]? with
        | none => rw [q] at e; cases e
        | some o =>
          rw [q] at e
          cases o with
          | lst ds =>
            cases e
            obtain ⟨vs, h1, h2⟩ := rp.all _ _ _ r q
            refine .d (.list h1 (fun m => ?_) (RepDs.sub (fun a m => List.mem_append_left _ m) _ _ h2))
            obtain ⟨j, hj, ej⟩ := List.getElem_of_mem m
            have := nodup_get rp.nd r (show (η ++ η')[j]? = _ by rw [List.getElem?_append_left hj, List.getElem?_eq_getElem hj, ej])
            omega
          | dK _ => cases e
          | dT _ => cases e
  | .tp ws, w', v, e, r => by
    cases r with
    | tp h1 h2 =>
      rw [frzW] at e
      cases q : frzWs η.length S ws with
      | none => rw [q] at e; cases e
      | some ws' => rw [q] at e; cases e; exact RepWs.mk h1 (frzWs_ok rp ws ws' _ q h2)
theorem frzWs_ok (rp : Rp K (η ++ η') H S) : ∀ (ws ws' : List W) (vs : List V), frzWs η.length S ws = some ws' → RepWs K (η ++ η') H ws vs → RepWs K η H ws' vs
  | [], ws', vs, e, r => by cases e; cases r; exact .nil
  | w :: ws, ws', vs, e, r => by
    cases r with
    | cons h1 h2 =>
      rw [frzWs] at e
      split at e
      · rename_i a b e1 e2
        cases e
        exact .cons (frzW_ok rp w a _ e1 h1) (frzWs_ok rp ws b _ e2 h2)
      · cases e
end
theorem frzWs_length : ∀ {n : Nat} {S : Store} {ws ws' : List W}, frzWs n S ws = some ws' → ws'.length = ws.length
  | n, S, [], ws', e => by cases e; rfl
  | n, S, w :: ws, ws', e => by
    rw [frzWs] at e
    split at e
    · rename_i a b e1 e2
      cases e
      rw [List.length_cons, List.length_cons, frzWs_length e2]
    · cases e
theorem Rp.cut (rp : Rp K (η ++ η') H S) : Rp K η H (S.take η.length) := by
  have hl : η.length ≤ S.length := by rw [← rp.len, List.length_append]; omega
  refine ⟨by rw [List.length_take]; omega, (List.nodup_append.mp rp.nd).1, fun l a o h1 h2 => ?_⟩
  have hl1 : l < η.length := (List.getElem?_eq_some_iff.mp h1).1
  rw [List.getElem?_take_of_lt hl1] at h2
  have r := rp.all l a o (by rw [List.getElem?_append_left hl1]; exact h1) h2
  have sub : ∀ a ∈ η, a ∈ η ++ η' := fun a m => List.mem_append_left _ m
  cases o with
  | lst ds => obtain ⟨vs, e, r⟩ := r; exact ⟨vs, e, RepDs.sub sub _ _ r⟩
  | dK kvs => obtain ⟨vs, e, e2, r⟩ := r; exact ⟨vs, e, e2, RepDs.sub sub _ _ r⟩
  | dT kvs => obtain ⟨vs, e, e2, r⟩ := r; exact ⟨vs, e, e2, RepDs.sub sub _ _ r⟩
theorem Fu.cut (f : Fu η H (η ++ η') H') : Fu η H η H' := ⟨⟨[], by simp⟩, fun a h => .inl h, f.tk, f.tp, f.fz, f.ls⟩
theorem FinR.frz {ct : Nat → Option Addr} {Z : XK} {r : R W} {Q : VK} (rp0 : Rp K η H S) (h : FinR ⟨K, ct⟩ (relW ⟨K, ct⟩) Z η H (VI.frz S.length r) Q) : FinR ⟨K, ct⟩ (relW ⟨K, ct⟩) Z η H r Q := by
  cases r with
  | bad => exact h
  | ok w S' =>
    intro η2 H2 v f rp r
    obtain ⟨e, rfl⟩ := f.px
    simp only [VI.frz] at h
    rw [← rp0.len] at h
    cases q : frzW η.length S' w with
    | none => rw [q] at h; exact h.elim
    | some w' =>
      rw [q] at h
      exact h η H2 v f.cut rp.cut (frzW_ok rp w w' v q r)
  | exc c fs S' =>
    intro η2 H2 C d vs f rp hc hd hf
    obtain ⟨e, rfl⟩ := f.px
    simp only [VI.frz] at h
    rw [← rp0.len] at h
    cases q : frzWs η.length S' (fs.map (·.2)) with
    | none => rw [q] at h; exact h.elim
    | some ws =>
      rw [q] at h
      have hl : ws.length = fs.length := by rw [frzWs_length q, List.length_map]
      refine h η H2 C d vs f.cut rp.cut hc hd ⟨?_, ?_⟩
      · rw [List.map_fst_zip (by rw [List.length_map, hl]; exact Nat.le_refl _)]
        exact hf.1
      · rw [List.map_snd_zip (by rw [List.length_map, hl]; exact Nat.le_refl _)]
        exact frzWs_ok rp _ _ _ q hf.2
end

/-! what a def promises, where nothing is being shown -/
structure FnG (P : Program) (w : World) (K : PySem.W.Frag) (mg : Str → Option Value) (base : Heap) (CX : CXT) (k : Nat) (f : Addr) (fd : FuncData) (ps : List Str) (sp : Sp) : Prop where
  len : ∀ vs H Q E, sp vs H Q E → vs.length = ps.length
  run : ∀ (A : Around) (outer : List Env) (s : Shared) (H : Hp) (args : Args) (us : List Value) (vs : List V) (Q : VK) (E : XK), Room k A → A.guards = some [] → Env0 P w K mg base A outer s H → BindsTo s fd args (ps.zip us) → Vals vs us → sp vs H Q E →
    codeAny (model P w) A (.call (.ref f) args) (CR CX outer P w H s Q E) s
theorem deeper_guards {A : Around} {env : Env} (h : A.guards = some []) : (A.deeper env).guards = some [] := h
def spG (G : Gc) (n : Nat) (g : List W → Store → R W) : Sp := fun vs H Q E => vs.length = n ∧ ∃ η S ws, Rp G.K η H S ∧ RepWs G.K η H ws vs ∧ FinR G (relW G) E η H (g ws S) Q
section
variable {X : Cx} {ct : Nat → Option Addr} {CX : CXT} {k : Nat} {f : Addr} {fd : FuncData} {ps : List Str} {sp : Sp} {Z : XK} {x : Str} {p pos : Pos} {e : Expr} {es : List Expr} {ta : TA}
theorem run_fnG {pins : List (Addr × Obj)} {σ : L2.St} {H : Hp} {s : Shared} {Q : VK} {us : List Value} {vs : List V} (F : FnG X.prog X.w X.K X.mg X.base CX k f fd ps sp) (hr : Room k X.A) (hgd : X.A.guards = some []) (hb : Binds X.K fd ps []) (hx : Passes CX X Z)
    (I : Inv X pins σ H s) (r : Vals vs us) (h : sp vs H Q Z) : wpAny (model X.prog X.w) X.A (call (.ref f) us) (EP X pins σ Q) X.xe s := by
  have hl : (us ++ []).length = ps.length := by rw [List.append_nil, ← r.length]; exact F.len _ _ _ _ h
  have hb' := hb s us I.kIn hl
  rw [List.append_nil] at hb'
  refine wpAny_call (codeAny_mono (F.run X.A X.stack s H ⟨us, []⟩ us vs Q Z hr hgd I.env0 hb' r h) fun r s' hq => ?_)
  cases r with
  | error e => exact hx pins σ H s e s' I hq
  | ok fl =>
    cases fl with
    | ret u => exact I.after hq
    | next => exact False.elim hq
    | brk => exact False.elim hq
    | cont => exact False.elim hq
theorem pe_callG (F : FnG X.prog X.w X.K X.mg X.base CX k f fd ps sp) (hr : Room k X.A) (hgd : X.A.guards = some []) (hg : Gl X x) (hm : X.mg x = some (.ref f)) (hk : PySem.W.keepIn X.K (.ref f) = true) (hb : Binds X.K fd ps []) (hx : Passes CX X Z)
    (ha : PA X (e :: es) ta) (hdb : (x == ("__debug__" : Str)) = false := by decide) (he : starEach (e :: es) X.env = (false, eval e X.env) :: starEach es X.env := by rfl) (hpl : (backTo pos (starEach es X.env)).any (·.1) = false := by rfl) :
    PE X (.Call (.Name x p) (e :: es) [] pos) (fun σ H Q => ta σ H fun vs H1 => sp vs H1 Q Z) := by
  refine ⟨fun pins s σ H Q I h => ?_⟩
  refine wpAny_Call_Name_kw (ld_glob I hg hm ?_ hdb)
  refine PySem.W.callWith_K (h₀ := X.base) I.ok.mod.kin hk (thn (ha.run pos pins s σ H _ I h) fun us s1 ⟨vs, H1, I1, r, q⟩ => ⟨I1.kIn, ?_⟩) he hpl
  exact run_fnG F hr hgd hb hx I1 r q
theorem pe_callG0 (F : FnG X.prog X.w X.K X.mg X.base CX k f fd ps sp) (hr : Room k X.A) (hgd : X.A.guards = some []) (hg : Gl X x) (hm : X.mg x = some (.ref f)) (hk : PySem.W.keepIn X.K (.ref f) = true) (hb : Binds X.K fd ps []) (hx : Passes CX X Z)
    (hdb : (x == ("__debug__" : Str)) = false := by decide) : PE X (.Call (.Name x p) [] [] pos) (fun σ H Q => sp [] H Q Z) := by
  refine ⟨fun pins s σ H Q I h => ?_⟩
  refine wpAny_Call_Name_kw (ld_glob I hg hm ?_ hdb)
  exact PySem.W.callWith_K0 I.kIn hk (run_fnG (us := []) F hr hgd hb hx I .nil h)
/-- a call whose live objects end -/
def fCall (n : Nat) (g : List W → Store → R W) (a : FA) : FE := fun ρ S => (a ρ S).bind fun ws S1 => if ws.length = n then frz S1.length (g ws S1) else .bad
/-- .. whose live objects go on -/
def fCallL (n : Nat) (g : List W → Store → R W) (a : FA) : FE := fun ρ S => (a ρ S).bind fun ws S1 => if ws.length = n then g ws S1 else .bad
variable {n : Nat} {g : List W → Store → R W} {fa : FA}
theorem i_callL (F : FnG X.prog X.w X.K X.mg X.base CX k f fd ps (spG (gx X ct) n g)) (hr : Room k X.A) (hgd : X.A.guards = some []) (hg : Gl X x) (hm : X.mg x = some (.ref f)) (hk : PySem.W.keepIn X.K (.ref f) = true) (hb : Binds X.K fd ps []) (hx : Passes CX X Z)
    (ha : PA X (e :: es) (tA (gx X ct) (fun _ => Z) fa)) (hdb : (x == ("__debug__" : Str)) = false := by decide) (he : starEach (e :: es) X.env = (false, eval e X.env) :: starEach es X.env := by rfl) (hpl : (backTo pos (starEach es X.env)).any (·.1) = false := by rfl) :
    PE X (.Call (.Name x p) (e :: es) [] pos) (tF (gx X ct) (fun _ => Z) (fCallL n g fa)) := PEw (pe_callG F hr hgd hg hm hk hb hx ha hdb he hpl) fun σ H Q ⟨η, ρ, S, rp, er, h⟩ =>
  ⟨η, ρ, S, rp, er, FinR.mono (FinR.bind h) fun v H1 ⟨η1, ws, S1, f1, rp1, r1, h1⟩ => by
    by_cases hn : ws.length = n
    · rw [if_pos hn] at h1
      exact ⟨by rw [← r1.length]; exact hn, η1, S1, ws, rp1, r1, h1⟩
    · rw [if_neg hn] at h1
      exact h1.elim⟩
theorem i_call (F : FnG X.prog X.w X.K X.mg X.base CX k f fd ps (spG (gx X ct) n g)) (hr : Room k X.A) (hgd : X.A.guards = some []) (hg : Gl X x) (hm : X.mg x = some (.ref f)) (hk : PySem.W.keepIn X.K (.ref f) = true) (hb : Binds X.K fd ps []) (hx : Passes CX X Z)
    (ha : PA X (e :: es) (tA (gx X ct) (fun _ => Z) fa)) (hdb : (x == ("__debug__" : Str)) = false := by decide) (he : starEach (e :: es) X.env = (false, eval e X.env) :: starEach es X.env := by rfl) (hpl : (backTo pos (starEach es X.env)).any (·.1) = false := by rfl) :
    PE X (.Call (.Name x p) (e :: es) [] pos) (tF (gx X ct) (fun _ => Z) (fCall n g fa)) := PEw (pe_callG F hr hgd hg hm hk hb hx ha hdb he hpl) fun σ H Q ⟨η, ρ, S, rp, er, h⟩ =>
  ⟨η, ρ, S, rp, er, FinR.mono (FinR.bind h) fun v H1 ⟨η1, ws, S1, f1, rp1, r1, h1⟩ => by
    by_cases hn : ws.length = n
    · rw [if_pos hn] at h1
      exact ⟨by rw [← r1.length]; exact hn, η1, S1, ws, rp1, r1, FinR.frz rp1 h1⟩
    · rw [if_neg hn] at h1
      exact h1.elim⟩
end

/-! built-in functions and types, called -/
section
variable {X : Cx} {ct : Nat → Option Addr} {E : EX} {x : Str} {p pos : Pos} {e : Expr} {es : List Expr} {id T : String} {g : List W → Store → O} {fa : FA}
theorem i_callB (hc : CallR X (.builtin id) (SimL X ct g)) (hg : Gl X x) (hm : X.mg x = none) (hv : bootBuiltins x = some (.builtin id)) (ha : PA X (e :: es) (tA (gx X ct) E fa)) (hn : x ≠ "__name__" := by decide) (hdb : (x == ("__debug__" : Str)) = false := by decide)
    (he : starEach (e :: es) X.env = (false, eval e X.env) :: starEach es X.env := by rfl) (hpl : (backTo pos (starEach es X.env)).any (·.1) = false := by rfl) : PE X (.Call (.Name x p) (e :: es) [] pos) (tF (gx X ct) E (fL g fa)) :=
  PEw (pe_callB hc hg hm hv ha hn hdb he hpl) (getL fun _ _ _ h => h)
theorem i_callT (hc : CallR X (.type T) (SimL X ct g)) (hg : Gl X x) (hm : X.mg x = none) (hv : bootBuiltins x = some (.type T)) (ha : PA X (e :: es) (tA (gx X ct) E fa)) (hn : x ≠ "__name__" := by decide) (hdb : (x == ("__debug__" : Str)) = false := by decide)
    (he : starEach (e :: es) X.env = (false, eval e X.env) :: starEach es X.env := by rfl) (hpl : (backTo pos (starEach es X.env)).any (·.1) = false := by rfl) : PE X (.Call (.Name x p) (e :: es) [] pos) (tF (gx X ct) E (fL g fa)) :=
  PEw (pe_callTy hc hg hm hv ha hn hdb he hpl) (getL fun _ _ _ h => h)
theorem CallR.fit {f : Value} {r r' : List V → Hp → VK → Prop} (h : CallR X f r) (i : ∀ xs H Q, r' xs H Q → r xs H Q) : CallR X f r' := fun pins s σ H xs us Q I r q => h pins s σ H xs us Q I r (i _ _ _ q)
theorem repWs1 {K : PySem.W.Frag} {η : List Addr} {H : Hp} {w : W} {vs : List V} (r : RepWs K η H [w] vs) : ∃ v, vs = [v] ∧ RepW K η H w v := by
  cases r with
  | cons h1 h2 => cases h2; exact ⟨_, rfl, h1⟩
theorem repWs2 {K : PySem.W.Frag} {η : List Addr} {H : Hp} {w u : W} {vs : List V} (r : RepWs K η H [w, u] vs) : ∃ v v', vs = [v, v'] ∧ RepW K η H w v ∧ RepW K η H u v' := by
  cases r with
  | cons h1 h2 =>
    obtain ⟨v', rfl, h3⟩ := repWs1 h2
    exact ⟨_, _, rfl, h1, h3⟩
def gLen (ws : List W) (S : Store) : O := match ws with
  | [.d (.str y)] => if y.length ≤ lim then some (.d (.int y.length), S) else none
  | [.tp xs] => some (.d (.int xs.length), S)
  | [w] => match asSeq w S with
    | some xs => some (.d (.int xs.length), S)
    | none => none
  | _ => none
theorem c_len : CallR X (.builtin "len") (SimL X ct gLen) := CallR.fit call_len fun xs H Q ⟨η, S, ws, rp, rr, q⟩ => by
  unfold gLen at q
  split at q
  · obtain ⟨v, rfl, r⟩ := repWs1 rr
    cases r with
    | d r =>
      cases r
      split at q
      · rename_i hz
        exact ⟨_, _, rfl, ⟨lim_ok hz, rfl⟩, same_val rp (.d (.int _)) q⟩
      · exact q.elim
  · obtain ⟨v, rfl, r⟩ := repWs1 rr
    cases r with
    | tp h1 h2 => exact ⟨_, _, rfl, .inr ⟨_, h1, rfl⟩, by rw [← h2.length]; exact same_val rp (.d (.int _)) q⟩
  · obtain ⟨v, rfl, r⟩ := repWs1 rr
    split at q
    · rename_i xs e
      obtain ⟨a, vs, rfl, h1, h2⟩ := asSeq_ok e rp r
      refine ⟨_, vs.length, rfl, ?_, by rw [← h2.length]; exact same_val rp (.d (.int _)) q⟩
      rcases h1 with h1 | h1
      · exact .inl ⟨_, h1, rfl⟩
      · exact .inr ⟨_, h1, rfl⟩
    · exact q.elim
  · exact q.elim
/-- list(x): of pure data -/
def gList (ws : List W) (S : Store) : O := match ws with
  | [w] => match asSeq w S with
    | some xs => some (.d (.list xs), S)
    | none => none
  | _ => none
def gListL (ws : List W) (S : Store) : O := match ws with
  | [w] => match asSeq w S with
    | some xs => some (.loc S.length, S ++ [.lst xs])
    | none => none
  | _ => none
theorem c_list : CallR X (.type "list") (SimL X ct gList) := CallR.fit call_list_of fun xs H Q ⟨η, S, ws, rp, rr, q⟩ => by
  unfold gList at q
  split at q
  · obtain ⟨v, rfl, r⟩ := repWs1 rr
    split at q
    · rename_i xs e
      obtain ⟨a, vs, rfl, h1, h2⟩ := asSeq_ok e rp r
      exact ⟨a, vs, rfl, h1, new_list rp h2 q⟩
    · exact q.elim
  · exact q.elim
theorem c_listL : CallR X (.type "list") (SimL X ct gListL) := CallR.fit call_list_of fun xs H Q ⟨η, S, ws, rp, rr, q⟩ => by
  unfold gListL at q
  split at q
  · obtain ⟨v, rfl, r⟩ := repWs1 rr
    split at q
    · rename_i xs e
      obtain ⟨a, vs, rfl, h1, h2⟩ := asSeq_ok e rp r
      exact ⟨a, vs, rfl, h1, new_live rp h2 q⟩
    · exact q.elim
  · exact q.elim
def gTuple (ws : List W) (S : Store) : O := match ws with
  | [.tp xs] => some (.tp xs, S)
  | [w] => match asSeq w S with
    | some xs => some (.d (.tuple xs), S)
    | none => none
  | _ => none
theorem c_tuple : CallR X (.type "tuple") (SimL X ct gTuple) := CallR.fit call_tuple_of fun xs H Q ⟨η, S, ws, rp, rr, q⟩ => by
  unfold gTuple at q
  split at q
  · obtain ⟨v, rfl, r⟩ := repWs1 rr
    cases r with
    | tp h1 h2 => exact ⟨_, _, rfl, .inr ⟨h1, same_val rp (.tp h1 h2) q⟩⟩
  · obtain ⟨v, rfl, r⟩ := repWs1 rr
    split at q
    · rename_i xs e
      obtain ⟨a, vs, rfl, h1, h2⟩ := asSeq_ok e rp r
      rcases h1 with h1 | h1
      · exact ⟨a, vs, rfl, .inl ⟨h1, new_tup rp h2 q⟩⟩
      · exact ⟨a, vs, rfl, .inr ⟨h1, same_val rp (.d (.tuple h1 h2)) q⟩⟩
    · exact q.elim
  · exact q.elim
def gAbs (ws : List W) (S : Store) : O := match ws with
  | [.d (.int i)] => some (.d (.int (if i < 0 then -i else i)), S)
  | _ => none
theorem c_abs : CallR X (.builtin "abs") (SimL X ct gAbs) := CallR.fit call_abs fun xs H Q ⟨η, S, ws, rp, rr, q⟩ => by
  unfold gAbs at q
  split at q
  · obtain ⟨v, rfl, r⟩ := repWs1 rr
    cases r with | d r => cases r; exact ⟨_, rfl, same_val rp (.d (.int _)) q⟩
  · exact q.elim
def gInt (ws : List W) (S : Store) : O := match ws with
  | [.d (.int i)] => some (.d (.int i), S)
  | [.d (.bool b)] => some (.d (.int (if b then 1 else 0)), S)
  | _ => none
theorem c_int : CallR X (.type "int") (SimL X ct gInt) := CallR.fit call_int1 fun xs H Q ⟨η, S, ws, rp, rr, q⟩ => by
  unfold gInt at q
  split at q
  · obtain ⟨v, rfl, r⟩ := repWs1 rr
    cases r with | d r => cases r; exact .inl ⟨_, rfl, same_val rp (.d (.int _)) q⟩
  · obtain ⟨v, rfl, r⟩ := repWs1 rr
    cases r with | d r => cases r; exact .inr ⟨_, rfl, same_val rp (.d (.int _)) q⟩
  · exact q.elim
def gMax2 (ws : List W) (S : Store) : O := match ws with
  | [.d (.int i), .d (.int j)] => some (.d (.int (if j > i then j else i)), S)
  | _ => none
theorem c_max2 (hc : X.calm = true) : CallR X (.builtin "max") (SimL X ct gMax2) := CallR.fit (call_max2 hc) fun xs H Q ⟨η, S, ws, rp, rr, q⟩ => by
  unfold gMax2 at q
  split at q
  · obtain ⟨v, v', rfl, r, r'⟩ := repWs2 rr
    cases r with
    | d r =>
      cases r' with
      | d r' =>
        cases r
        cases r'
        exact ⟨_, _, rfl, same_val rp (.d (.int _)) q⟩
  · exact q.elim
/-- the ints of a list -/
def intsD : List PyData → Option (List Int)
  | [] => some []
  | .int i :: r => (intsD r).map (i :: ·)
  | _ :: _ => none
theorem intsD_ok {K : PySem.W.Frag} {η : List Addr} {H : Hp} : ∀ {ds : List PyData} {vs : List V} {ns : List Int}, intsD ds = some ns → RepDs K η H ds vs → vs = ns.map V.int
  | [], vs, ns, e, r => by cases e; cases r; rfl
  | .int i :: ds, vs, ns, e, r => by
    cases r with
    | cons h1 h2 =>
      cases h1
      cases q : intsD ds with
      | none => rw [intsD, q] at e; cases e
      | some ms => rw [intsD, q] at e; cases e; rw [intsD_ok q h2]; rfl
  | .none :: _, vs, ns, e, r => by cases e
  | .bool _ :: _, vs, ns, e, r => by cases e
  | .str _ :: _, vs, ns, e, r => by cases e
  | .list _ :: _, vs, ns, e, r => by cases e
  | .tuple _ :: _, vs, ns, e, r => by cases e
  | .dict _ :: _, vs, ns, e, r => by cases e
theorem intsD_map : ∀ ns : List Int, intsD (ns.map PyData.int) = some ns
  | [] => rfl
  | x :: xs => by rw [List.map_cons, intsD, intsD_map xs]; rfl
def asLst (w : W) (S : Store) : Option (List PyData) := match w with
  | .d (.tuple _) => none
  | w => asSeq w S
theorem asLst_ok {K : PySem.W.Frag} {η : List Addr} {H : Hp} {S : Store} {w : W} {v : V} {xs : List PyData} (e : asLst w S = some xs) (rp : Rp K η H S) (r : RepW K η H w v) : ∃ a vs, v = .ref a ∧ SqL K H a vs ∧ RepDs K η H xs vs := by
  unfold asLst at e
  split at e
  · cases e
  · rename_i n
    exact asSeq_list e (fun ys q => n ys q) rp r
def gSum (ws : List W) (S : Store) : O := match ws with
  | [w] => match asLst w S with
    | some xs => match intsD xs with
      | some ns => some (.d (.int ns.sum), S)
      | none => none
    | none => none
  | _ => none
theorem c_sum (hc : X.calm = true) : CallR X (.builtin "sum") (SimL X ct gSum) := CallR.fit (cr_sum hc) fun xs H Q ⟨η, S, ws, rp, rr, q⟩ => by
  unfold gSum at q
  split at q
  · obtain ⟨v, rfl, r⟩ := repWs1 rr
    split at q
    · rename_i xs e
      obtain ⟨a, vs, rfl, h1, h2⟩ := asLst_ok e rp r
      split at q
      · rename_i ns e2
        have := intsD_ok e2 h2
        subst this
        exact ⟨a, ns, rfl, h1, same_val rp (.d (.int _)) q⟩
      · exact q.elim
    · exact q.elim
  · exact q.elim
/-! repr -/
theorem isRef_of {h : Heap} {u : Value} {d : PyData} {as : List Addr} (r : Reads h u d as) : (∃ a, u = .ref a) ∨ (d = .none ∧ u = .none) ∨ (∃ b, d = .bool b ∧ u = .bool b) ∨ (∃ i t, d = .int i ∧ u = .int i t) ∨ ∃ x t, d = .str x ∧ u = .str x t := by
  cases r with
  | none => exact .inr (.inl ⟨rfl, rfl⟩)
  | bool b => exact .inr (.inr (.inl ⟨b, rfl, rfl⟩))
  | int i t => exact .inr (.inr (.inr (.inl ⟨i, t, rfl, rfl⟩)))
  | str x t => exact .inr (.inr (.inr (.inr ⟨x, t, rfl, rfl⟩)))
  | list _ _ _ _ => exact .inl ⟨_, rfl⟩
  | tuple _ _ _ _ => exact .inl ⟨_, rfl⟩
  | dict _ _ _ _ _ => exact .inl ⟨_, rfl⟩
def noDict (d : PyData) : Bool := !d.hasDict
def gRepr (ws : List W) (S : Store) : O := match ws with
  | [w] => match asD w S with
    | some d => if d.showable = true ∧ d.hasDict = false ∧ d.depth ≤ 64 ∧ d.shown.length ≤ lim then some (.d (.str d.shown), S) else none
    | none => none
  | _ => none
theorem c_repr (hg : X.A.guards = some []) (hu : X.A.units + 65 < cLine) : CallR X (.builtin "repr") (SimL X ct gRepr) := by
  intro pins s σ H xs us Q I rv ⟨η, S, ws, rp, rr, q⟩
  unfold gRepr at q
  split at q
  · obtain ⟨v, rfl, r⟩ := repWs1 rr
    obtain ⟨u, rfl, ru⟩ := vals1 rv
    split at q
    · rename_i d e
      split at q
      · rename_i hz
        obtain ⟨hs, hd, hk, hz⟩ := hz
        have q' : Q (.str d.shown) H := same_val rp (.d (.str _)) q
        obtain ⟨as, rd⟩ := Dp.reads I d v u (asD_ok e hd rp r) ru
        rcases isRef_of rd with ⟨a, rfl⟩ | ⟨rfl, rfl⟩ | ⟨b, rfl, rfl⟩ | ⟨i, t, rfl, rfl⟩ | ⟨x, t, rfl, rfl⟩
        · exact repr_of_reads' rd hs (PyData.noDict_hsm hd) hg (by omega) (fun _ _ e => e) (fun h' u tk hk => ⟨.str d.shown, H, I.kept hk, ⟨_, rfl⟩, q'⟩) (lim_ok hz)
        · exact PySem.P.repr_of_none ⟨.str (PyData.shown .none), H, I.tok _, ⟨_, rfl⟩, q'⟩
        · exact PySem.P.repr_of_bool ⟨.str (PyData.shown (.bool b)), H, I.tok _, ⟨_, by cases b <;> rfl⟩, q'⟩
        · exact PySem.P.repr_of_int (of_decide_eq_true hs) ⟨.str (PyData.shown (.int i)), H, I.tok _, ⟨_, rfl⟩, q'⟩
        · exact PySem.P.repr_of_str ⟨.str (PyData.shown (.str x)), H, I.tok _, ⟨_, rfl⟩, q'⟩ (lim_ok hz)
      · exact q.elim
    · exact q.elim
  · exact q.elim
end
end VI
set_option Elab.async false
set_option linter.all false
set_option maxRecDepth 100000
namespace VI
open PySem PySem.Spec PyProof.Rows L2

/-! targets -/
abbrev FG := W → Rho → Option Rho
abbrev FGs := List W → Rho → Option Rho
def tG (G : Gc) (g : FG) : TG := fun v σ H Q => ∃ η ρ w ρ', RepW G.K η H w v ∧ ERep G.K η H ρ σ ∧ g w ρ = some ρ' ∧ ∀ σ', ERep G.K η H ρ' σ' → Q σ' H
def tGs (G : Gc) (g : FGs) : TGs := fun vs σ H Q => ∃ η ρ ws ρ', RepWs G.K η H ws vs ∧ ERep G.K η H ρ σ ∧ g ws ρ = some ρ' ∧ ∀ σ', ERep G.K η H ρ' σ' → Q σ' H
theorem PGw {X : Cx} {e : Expr} {t t' : TG} (h : PG X e t) (i : ∀ v σ H Q, t' v σ H Q → t v σ H Q) : PG X e t' := ⟨fun pins s σ H v u Q I r q => h.run pins s σ H v u Q I r (i v σ H Q q)⟩
theorem PGsw {X : Cx} {e : List Expr} {t t' : TGs} (h : PGs X e t) (i : ∀ v σ H Q, t' v σ H Q → t v σ H Q) : PGs X e t' := ⟨fun pins s σ H v u Q I r q => h.run pins s σ H v u Q I r (i v σ H Q q)⟩
def gtName (i : Nat) : FG := fun w ρ => some (ρ.set i (some w))
def gtNil : FGs := fun ws ρ => match ws with
  | [] => some ρ
  | _ => none
def gtCons (g : FG) (r : FGs) : FGs := fun ws ρ => match ws with
  | w :: ws => match g w ρ with
    | some ρ1 => r ws ρ1
    | none => none
  | [] => none
def gtTup (n : Nat) (r : FGs) : FG := fun w ρ => match asTW w with
  | some ws => if ws.length = n then r ws ρ else none
  | none => none
section
variable {X : Cx} {ct : Nat → Option Addr} {E : EX}
theorem g_name (i : Nat) {x : Str} {pos : Pos} (hN : X.N.Nodup) (hi : X.N[i]? = some x := by rfl) (hx : Loc X.env.scope x := by first | exact Or.inl rfl | exact Or.inr rfl) (hf : X.fn x = true ∨ X.env.scope.names.lookup x = some .local := by first | exact .inl rfl | exact .inr rfl) :
    PG X (.Name x pos) (tG (gx X ct) (gtName i)) := PGw (pg_name hN hi hx hf) fun v σ H Q ⟨η, ρ, w, ρ', r, er, e, h⟩ => by
  cases e
  exact h _ (er.set r)
theorem gs_nil : PGs X [] (tGs (gx X ct) gtNil) := PGsw pgs_nil fun v σ H Q ⟨η, ρ, w, ρ', r, er, e, h⟩ => by
  unfold gtNil at e
  split at e
  · cases e
    cases r
    exact ⟨rfl, h _ er⟩
  · cases e
theorem gs_cons {e : Expr} {es : List Expr} {g : FG} {gs : FGs} (h1 : PG X e (tG (gx X ct) g)) (h2 : PGs X es (tGs (gx X ct) gs)) (hs : (assignEach (e :: es) X.env).map (·.2) = assign e X.env :: (assignEach es X.env).map (·.2) := by rfl) :
    PGs X (e :: es) (tGs (gx X ct) (gtCons g gs)) := PGsw (pgs_cons h1 h2 hs) fun v σ H Q ⟨η, ρ, w, ρ', r, er, e, h⟩ => by
  unfold gtCons at e
  split at e
  · rename_i w0 ws
    cases r with
    | cons r1 r2 =>
      split at e
      · rename_i ρ1 e1
        exact ⟨_, _, rfl, η, ρ, w0, ρ1, r1, er, e1, fun σ1 er1 => ⟨η, ρ1, ws, ρ', r2, er1, e, h⟩⟩
      · cases e
  · cases e
theorem g_tup {es : List Expr} {k n : Nat} {pos : Pos} {gs : FGs} (hc : X.calm = true) (h : PGs X es (tGs (gx X ct) gs)) (hn : (assignEach es X.env).length = n := by rfl) (hst : (assignEach es X.env).findIdx? (·.1) = none := by rfl) :
    PG X (.Tuple es k pos) (tG (gx X ct) (gtTup n gs)) := PGw (pg_tup hc h hn hst) fun v σ H Q ⟨η, ρ, w, ρ', r, er, e, h⟩ => by
  unfold gtTup at e
  split at e
  · rename_i ws e1
    obtain ⟨a, vs, rfl, h1, h2⟩ := asTW_ok e1 r
    split at e
    · rename_i hl
      exact ⟨a, vs, rfl, h1, by rw [← h2.length]; exact hl, η, ρ, ws, ρ', h2, er, e, h⟩
    · cases e
  · cases e

/-! small statements -/
def fNext : FS := fun ρ S => .next ρ S
def fSeq (a b : FS) : FS := fun ρ S => match a ρ S with
  | .next ρ1 S1 => b ρ1 S1
  | r => r
theorem s_nil : PSs X [] (tS (gx X ct) E fNext) := PSsw pss_nil fun D σ H ⟨η, ρ, S, rp, er, h⟩ => h η H σ (Fu.refl _ _) rp er
theorem s_one {st : Stmt} {f : FS} (h : PS X st (tS (gx X ct) E f)) : PSs X [st] (tS (gx X ct) E f) := pss_one h
theorem s_cons {st : Stmt} {rest : List Stmt} {f g : FS} (h : PS X st (tS (gx X ct) E f)) (h2 : PSs X rest (tS (gx X ct) E g)) : PSs X (st :: rest) (tS (gx X ct) E (fSeq f g)) := PSsw (pss_cons h h2) fun D σ H ⟨η, ρ, S, rp, er, h⟩ => by
  refine ⟨η, ρ, S, rp, er, ?_⟩
  unfold fSeq at h
  cases e : f ρ S with
  | next ρ1 S1 => rw [e] at h; exact fun η1 H1 σ1 f1 rp1 er1 => ⟨η1, ρ1, S1, rp1, er1, FinS.fu f1 h⟩
  | ret w S1 => rw [e] at h; exact h
  | brk ρ1 S1 => rw [e] at h; exact h
  | cnt ρ1 S1 => rw [e] at h; exact h
  | exc c fs ρ1 S1 => rw [e] at h; exact h
  | bad => rw [e] at h; exact h
def fBrk : FS := fun ρ S => .brk ρ S
def fCnt : FS := fun ρ S => .cnt ρ S
theorem s_pass {pos : Pos} : PS X (.Pass pos) (tS (gx X ct) E fNext) := PSw ps_pass fun D σ H ⟨η, ρ, S, rp, er, h⟩ => h η H σ (Fu.refl _ _) rp er
theorem s_brk {pos : Pos} : PS X (.Break pos) (tS (gx X ct) E fBrk) := PSw ps_break fun D σ H ⟨η, ρ, S, rp, er, h⟩ => h η H σ (Fu.refl _ _) rp er
theorem s_cnt {pos : Pos} : PS X (.Continue pos) (tS (gx X ct) E fCnt) := PSw ps_continue fun D σ H ⟨η, ρ, S, rp, er, h⟩ => h η H σ (Fu.refl _ _) rp er
def fDrop (a : FE) : FS := fun ρ S => toS ρ (a ρ S) fun _ S1 => .next ρ S1
theorem s_expr {e : Expr} {pos : Pos} {f : FE} (he : PE X e (tF (gx X ct) E f)) (hs : swapsWith e none pos.line X.env = pure false := by rfl) : PS X (.Expr e pos) (tS (gx X ct) E (fDrop f)) := PSw (ps_expr he hs) fun D σ H ⟨η, ρ, S, rp, er, h⟩ =>
  ⟨η, ρ, S, rp, er, FinR.mono (FinS.bind er h) fun v H1 ⟨η1, w, S1, f1, rp1, r1, h1⟩ => h1 η1 H1 σ (Fu.refl _ _) rp1 (er.fu f1)⟩
def fRet (a : FE) : FS := fun ρ S => toS ρ (a ρ S) fun w S1 => .ret w S1
theorem s_ret {e : Expr} {pos : Pos} {f : FE} (he : PE X e (tF (gx X ct) E f)) : PS X (.Return (some e) pos) (tS (gx X ct) E (fRet f)) := PSw (ps_ret he) fun D σ H ⟨η, ρ, S, rp, er, h⟩ =>
  ⟨η, ρ, S, rp, er, FinR.mono (FinS.bind er h) fun v H1 ⟨η1, w, S1, f1, rp1, r1, h1⟩ => h1 η1 H1 v (Fu.refl _ _) rp1 r1⟩
def fRetN : FS := fun ρ S => .ret (.d .none) S
theorem s_retN {pos : Pos} : PS X (.Return none pos) (tS (gx X ct) E fRetN) := PSw ps_retN fun D σ H ⟨η, ρ, S, rp, er, h⟩ => h η H .non (Fu.refl _ _) rp (.d .none)
def fIf (c : FT) (a b : FS) : FS := fun ρ S => toS ρ (c ρ S) fun k S1 => if k = true then a ρ S1 else b ρ S1
theorem s_if {c : Expr} {a b : List Stmt} {pos : Pos} {t : FT} {f g : FS} (hc : PT X c (tT (gx X ct) E t)) (ha : PSs X a (tS (gx X ct) E f)) (hb : PSs X b (tS (gx X ct) E g)) : PS X (.If c a b pos) (tS (gx X ct) E (fIf t f g)) :=
  PSw (ps_if hc ha hb) fun D σ H ⟨η, ρ, S, rp, er, h⟩ => ⟨η, ρ, S, rp, er, FinR.mono (FinS.bind (rel := relB) er h) fun v H1 ⟨η1, w, S1, f1, rp1, r1, h1⟩ => by
    obtain rfl : v = w := r1
    by_cases hv : v = true
    · rw [if_pos hv] at h1 ⊢; exact ⟨η1, ρ, S1, rp1, er.fu f1, h1⟩
    · rw [if_neg hv] at h1 ⊢; exact ⟨η1, ρ, S1, rp1, er.fu f1, h1⟩⟩
/-- target = value -/
def fAsg (a : FE) (g : FG) : FS := fun ρ S => toS ρ (a ρ S) fun w S1 => match g w ρ with
  | some ρ1 => .next ρ1 S1
  | none => .bad
theorem asg_key {f : FE} {g : FG} {D : Ends} {σ : L2.St} {H : Hp} (h : tS (gx X ct) E (fAsg f g) D σ H) : tF (gx X ct) E f σ H fun x H1 => tG (gx X ct) g x σ H1 D.nx := by
  obtain ⟨η, ρ, S, rp, er, h⟩ := h
  exact ⟨η, ρ, S, rp, er, FinR.mono (FinS.bind er h) fun v H1 ⟨η1, w, S1, f1, rp1, r1, h1⟩ => by
    split at h1
    · rename_i ρ1 e
      exact ⟨η1, ρ, w, ρ1, r1, er.fu f1, e, fun σ' er' => h1 η1 H1 σ' (Fu.refl _ _) rp1 er'⟩
    · exact h1.elim⟩
theorem s_asg {tg e : Expr} {pos : Pos} {f : FE} {g : FG} (he : PE X e (tF (gx X ct) E f)) (hg : PG X tg (tG (gx X ct) g)) (hs : swapsWithSole [tg] e pos.line X.env = pure false := by rfl) (hw : swappedStores [tg] e X.env = pure none := by rfl)
    (h1 : (assignEach [tg] X.env).map (·.2) = [assign tg X.env] := by rfl) : PS X (.Assign [tg] e pos) (tS (gx X ct) E (fAsg f g)) := PSw (ps_asg he hg hs hw h1) fun D σ H h => asg_key h
theorem s_set (i : Nat) {x : Str} {e : Expr} {pos pos' : Pos} {f : FE} (hN : X.N.Nodup) (he : PE X e (tF (gx X ct) E f)) (hi : X.N[i]? = some x := by rfl) (hx : Loc X.env.scope x := by first | exact Or.inl rfl | exact Or.inr rfl) (hs : swapsWith e (some (.Name x pos')) pos.line X.env = pure false := by rfl)
    (hf : X.fn x = true ∨ X.env.scope.names.lookup x = some .local := by first | exact .inl rfl | exact .inr rfl) : PS X (.Assign [.Name x pos'] e pos) (tS (gx X ct) E (fAsg f (gtName i))) := PSw (ps_set hN hi hx he hs hf) fun D σ H ⟨η, ρ, S, rp, er, h⟩ =>
  ⟨η, ρ, S, rp, er, FinR.mono (FinS.bind er h) fun v H1 ⟨η1, w, S1, f1, rp1, r1, h1⟩ => h1 η1 H1 _ (Fu.refl _ _) rp1 ((er.fu f1).set r1)⟩
/-- x op= e: + of ints -/
def fAug (i : Nat) (g : W → W → Store → O) (a : FE) : FS := fun ρ S => match ρ[i]? with
  | some (some w) => toS ρ (a ρ S) fun u S1 => match g w u S1 with
    | some (z, S2) => .next (ρ.set i (some z)) S2
    | none => .bad
  | _ => .bad
theorem s_aug (i : Nat) {x : Str} {e : Expr} {op : Operator} {pos pos' : Pos} {g : W → W → Store → O} {f : FE} (hN : X.N.Nodup) (ho : OpR X (inplaceOp op) (Sim2 X ct g)) (he : PE X e (tF (gx X ct) E f)) (hi : X.N[i]? = some x := by rfl) (hx : Loc X.env.scope x := by first | exact Or.inl rfl | exact Or.inr rfl)
    (hf : X.fn x = true ∨ X.env.scope.names.lookup x = some .local := by first | exact .inl rfl | exact .inr rfl) : PS X (.AugAssign (.Name x pos') op e pos) (tS (gx X ct) E (fAug i g f)) := PSw (ps_aug (ti := Sim2 X ct g) hN hi hx he (fun pins s σ H a b v u Q I ra rb q => ho pins s σ H a b v u Q I ra rb q) hf) fun D σ H ⟨η, ρ, S, rp, er, h⟩ => by
  unfold fAug at h
  split at h
  · rename_i w e
    obtain ⟨v, e1, r⟩ := er.2 i w e
    refine ⟨v, e1, η, ρ, S, rp, er, FinR.mono (FinS.bind er h) fun v2 H1 ⟨η1, u, S1, f1, rp1, r1, h1⟩ => ⟨η1, S1, w, u, rp1, RepW.fu f1 _ _ r, r1, ?_⟩⟩
    cases e2 : g w u S1 with
    | none => rw [e2] at h1; exact h1.elim
    | some p =>
      obtain ⟨z, S2⟩ := p
      rw [e2] at h1
      exact fun η2 H2 z' f2 rp2 r2 => h1 η2 H2 _ f2 rp2 (((er.fu f1).fu f2).set r2)
  · exact h.elim
theorem sim_iaddI : OpR X (inplaceOp .Add) (Sim2 X ct (gI2 (fun _ _ => true) fun i j => .int (i + j))) := sim_i20 iop_add fun _ _ _ _ => .int _
theorem sim_isubI : OpR X (inplaceOp .Sub) (Sim2 X ct (gI2 (fun _ _ => true) fun i j => .int (i - j))) := sim_i20 iop_sub fun _ _ _ _ => .int _
theorem sim_iaddStr : OpR X (inplaceOp .Add) (Sim2 X ct gAddStr) := OpR.fit iop_add_str fun x y H Q ⟨η, S, wx, wy, rp, rx, ry, h⟩ => by
  unfold gAddStr at h
  split at h
  · cases rx with
    | d rx =>
      cases ry with
      | d ry =>
        cases rx
        cases ry
        split at h
        · exact ⟨_, _, rfl, rfl, lim_ok (by assumption), same_val rp (.d (.str _)) h⟩
        · exact h.elim
  · exact h.elim
/-- o[i] = v, a live list -/
def gSet (o i v : W) (S : Store) : Option Store := match o, i, v with
  | .loc l, .d (.int k), .d x => match S[l]? with
    | some (.lst xs) => match ixN xs.length k with
      | some j => some (S.set l (.lst (xs.set j x)))
      | none => none
    | _ => none
  | _, _, _ => none
def fStore (a o i : FE) : FS := fun ρ S => toS ρ (a ρ S) fun v S1 => toS ρ (o ρ S1) fun ov S2 => toS ρ (i ρ S2) fun iv S3 => match gSet ov iv v S3 with
  | some S4 => .next ρ S4
  | none => .bad
theorem set_key {η : List Addr} {H : Hp} {S S' : Store} {wo wi wv : W} {o i v : V} {P : Hp → Prop} (e : gSet wo wi wv S = some S') (rp : Rp X.K η H S) (ro : RepW X.K η H wo o) (ri : RepW X.K η H wi i) (rv : RepW X.K η H wv v)
    (h : ∀ η' H', Fu η H η' H' → Rp X.K η' H' S' → P H') : rSetL o i v H P := by
  unfold gSet at e
  split at e
  · rename_i l k x
    cases ro with
    | loc ro =>
      cases ri with
      | d ri =>
        cases ri
        cases rv with
        | d rv =>
          split at e
          · rename_i xs q
            split at e
            · rename_i j ej
              cases e
              obtain ⟨vs, h1, h2⟩ := rp.all _ _ _ ro q
              refine ⟨_, vs, k, j, rfl, rfl, h1, by rw [← h2.length]; exact ej, ?_⟩
              have m := List.mem_of_getElem? ro
              have f : Fu η H η (upd H _ (.lst (vs.set j v))) := fu_write m h1 trivial
              exact h η _ f (rp.write ro ⟨_, upd_same, RepDs.fu f _ _ (RepDs.set rv j h2)⟩)
            · cases e
          · cases e
  · cases e
theorem s_store {o i e : Expr} {tpos pos : Pos} {fo fi fe : FE} (he : PE X e (tF (gx X ct) E fe)) (ho : PE X o (tF (gx X ct) E fo)) (hi : PE X i (tF (gx X ct) E fi)) (ha : ∀ v, assign (.Subscript o i tpos) X.env v = (do
      let ov ← holding [v] (eval o X.env)
      let iv ← holding [v, ov] (eval i X.env)
      standAt tpos
      holding [v, ov, iv] (setItem ov iv v)
      release [v, ov, iv] []) := by intro _; rfl) (hs : swapsWithSole [.Subscript o i tpos] e pos.line X.env = pure false := by rfl) (hw : swappedStores [.Subscript o i tpos] e X.env = pure none := by rfl)
    (h1 : (assignEach [.Subscript o i tpos] X.env).map (·.2) = [assign (.Subscript o i tpos) X.env] := by rfl) : PS X (.Assign [.Subscript o i tpos] e pos) (tS (gx X ct) E (fStore fe fo fi)) := PSw (ps_asg he (pg_sub ho hi set_list ha) hs hw h1) fun D σ H ⟨η, ρ, S, rp, er, h⟩ =>
  ⟨η, ρ, S, rp, er, FinR.mono (FinS.bind er h) fun v H1 ⟨η1, w, S1, f1, rp1, r1, h1⟩ =>
    ⟨η1, ρ, S1, rp1, er.fu f1, FinR.mono (FinS.bind (er.fu f1) h1) fun v2 H2 ⟨η2, w2, S2, f2, rp2, r2, h2⟩ =>
      ⟨η2, ρ, S2, rp2, (er.fu f1).fu f2, FinR.mono (FinS.bind ((er.fu f1).fu f2) h2) fun v3 H3 ⟨η3, w3, S3, f3, rp3, r3, h3⟩ => by
        split at h3
        · rename_i S4 e4
          exact set_key e4 rp3 (RepW.fu f3 _ _ r2) r3 (RepW.fu f3 _ _ (RepW.fu f2 _ _ r1)) fun η4 H4 f4 rp4 => h3 η4 H4 σ f4 rp4 ((((er.fu f1).fu f2).fu f3).fu f4)
        · exact h3.elim⟩⟩⟩

/-! while -/
def whileL (c : FT) (b : FS) : Nat → Rho → Store → RF
  | 0, _, _ => .bad
  | n + 1, ρ, S => toS ρ (c ρ S) fun k S1 => if k = true then (match b ρ S1 with
    | .next ρ2 S2 => whileL c b n ρ2 S2
    | .cnt ρ2 S2 => whileL c b n ρ2 S2
    | .brk ρ2 S2 => .next ρ2 S2
    | r => r) else .next ρ S1
theorem s_while (n : Nat) {c : Expr} {body : List Stmt} {pos : Pos} {t : FT} {f : FS} (hp : PassesOwn (model X.prog X.w) X.A X.env X.xe) (hc : PT X c (tT (gx X ct) E t)) (hb : PSs X body (tS (gx X ct) E f)) : PS X (.While c body [] pos) (tS (gx X ct) E (whileL t f n)) := PSw (ps_while hp hc hb) fun D σ H ⟨η, ρ, S, rp, er, h⟩ => by
  refine ⟨fun m σ H => ∃ η ρ S, Rp X.K η H S ∧ ERep X.K η H ρ σ ∧ FinS (gx X ct) E η H (whileL t f m ρ S) D, ⟨n, η, ρ, S, rp, er, h⟩, ?_⟩
  rintro m σ H ⟨η, ρ, S, rp, er, h⟩
  cases m with
  | zero => exact h.elim
  | succ m =>
    refine ⟨η, ρ, S, rp, er, FinR.mono (FinS.bind (rel := relB) er h) fun v H1 ⟨η1, k, S1, f1, rp1, r1, h1⟩ => ?_⟩
    obtain rfl : v = k := r1
    by_cases hv : v = true
    · rw [if_pos hv] at h1 ⊢
      refine ⟨fun σ' H' => ∃ η ρ S, Rp X.K η H' S ∧ ERep X.K η H' ρ σ' ∧ FinS (gx X ct) E η H' (whileL t f m ρ S) D, fun σ' H' q => ⟨m, Nat.lt_succ_self m, q⟩, η1, ρ, S1, rp1, er.fu f1, ?_⟩
      cases e : f ρ S1 with
      | next ρ2 S2 => rw [e] at h1; exact fun η2 H2 σ2 f2 rp2 er2 => ⟨η2, ρ2, S2, rp2, er2, FinS.fu f2 h1⟩
      | cnt ρ2 S2 => rw [e] at h1; exact fun η2 H2 σ2 f2 rp2 er2 => ⟨η2, ρ2, S2, rp2, er2, FinS.fu f2 h1⟩
      | brk ρ2 S2 => rw [e] at h1; exact h1
      | ret w S2 => rw [e] at h1; exact h1
      | exc c fs ρ2 S2 => rw [e] at h1; exact h1
      | bad => rw [e] at h1; exact h1
    · rw [if_neg hv] at h1 ⊢
      exact h1 η1 H1 σ (Fu.refl _ _) rp1 (er.fu f1)

end
end VI
set_option Elab.async false
set_option linter.all false
set_option maxRecDepth 100000
namespace VI
open PySem PySem.Spec PyProof.Rows L2

/-! what is walked -/
/-- the members, and what the store must say at each turn -/
structure Wk where
  xs : List W
  ok : Store → Prop
structure WalkOk (K : PySem.W.Frag) (x : Wk) (η : List Addr) (H : Hp) (J : It) : Prop where
  stop : ∀ η' H' S', Fu η H η' H' → Rp K η' H' S' → x.ok S' → J.stop x.xs.length H'
  go : ∀ η' H' S' i w, Fu η H η' H' → Rp K η' H' S' → x.ok S' → x.xs[i]? = some w → J.go i H' ∧ ∀ y H'', J.yld i H' y H'' → Fu η' H' η' H'' ∧ Rp K η' H'' S' ∧ RepW K η' H'' w y
abbrev relJ (G : Gc) : Wk → List Addr → Hp → It → Prop := fun x η H J => WalkOk G.K x η H J
abbrev FK := Rho → Store → R Wk
def tI (G : Gc) (E : EX) (f : FK) : TI := fun σ H Q => ∃ η ρ S, Rp G.K η H S ∧ ERep G.K η H ρ σ ∧ FinR G (relJ G) (E σ) η H (f ρ S) Q
theorem PIw {X : Cx} {tg e : Expr} {t t' : TI} (h : PI X tg e t) (i : ∀ σ H R, t' σ H R → t σ H R) : PI X tg e t' := ⟨fun pins s σ H R I q => h.run pins s σ H R I (i σ H R q)⟩
def seqR {α : Type} (o : Option α) (S : Store) : R α := match o with
  | some ws => .ok ws S
  | none => .bad
theorem seqR_fin {α β : Type} {G : Gc} {Z : XK} {η : List Addr} {H : Hp} {S : Store} {o : Option α} {rel : α → List Addr → Hp → β → Prop} {Q : β → Hp → Prop} (h : FinR G rel Z η H (seqR o S) Q) : ∃ xs, o = some xs ∧ FinR G rel Z η H (.ok xs S) Q := by
  cases o with
  | none => exact h.elim
  | some xs => exact ⟨xs, rfl, h⟩
/-- a list: one that stays, or a live one, which must stay through the turns -/
def wkL (w : W) (S : Store) : Option Wk := match w with
  | .d (.list xs) => some ⟨xs.map W.d, fun _ => True⟩
  | .fro xs => some ⟨xs.map W.d, fun _ => True⟩
  | .loc l => match S[l]? with
    | some (.lst xs) => some ⟨xs.map W.d, fun S' => S'[l]? = some (.lst xs)⟩
    | _ => none
  | _ => none
def wkT (w : W) : Option Wk := (asTW w).map fun xs => ⟨xs, fun _ => True⟩
def fItL (a : FE) : FK := fun ρ S => (a ρ S).bind fun w S1 => seqR (wkL w S1) S1
def fItT (a : FE) : FK := fun ρ S => (a ρ S).bind fun w S1 => seqR (wkT w) S1
/-- a list as it stands, at each turn -/
def StayW (K : PySem.W.Frag) (x : Wk) (η : List Addr) (H : Hp) (T : Hp → List V → Prop) : Prop :=
  ∀ η' H' S', Fu η H η' H' → Rp K η' H' S' → x.ok S' → ∃ vs, T H' vs ∧ RepWs K η' H' x.xs vs
theorem wkL_ok {K : PySem.W.Frag} {η : List Addr} {H : Hp} {S : Store} {w : W} {v : V} {x : Wk} (e : wkL w S = some x) (rp : Rp K η H S) (r : RepW K η H w v) : ∃ a vs, v = .ref a ∧ SqL K H a vs ∧ StayW K x η H (fun H' vs => SqL K H' a vs) := by
  unfold wkL at e
  split at e
  · cases e
    cases r with
    | d r =>
      cases r with
      | list h1 h2 h3 => exact ⟨_, _, rfl, SqL.of h1, fun η' H' S' f rp' _ => ⟨_, SqL.of (f.ls _ _ h2 h1), RepWs.ofD (RepDs.fu f _ _ h3)⟩⟩
  · cases e
    cases r with
    | fro h1 h2 => exact ⟨_, _, rfl, h1.seq, fun η' H' S' f rp' _ => ⟨_, (h1.fu f).seq, RepWs.ofD (RepDs.fu f _ _ h2)⟩⟩
  · split at e
    · rename_i l xs q
      cases e
      cases r with
      | loc r =>
        obtain ⟨vs, h1, h2⟩ := rp.all _ _ _ r q
        refine ⟨_, vs, rfl, SqL.of h1, fun η' H' S' f rp' ok => ?_⟩
        obtain ⟨vs', h1', h2'⟩ := rp'.all _ _ _ (f.get r) ok
        exact ⟨vs', SqL.of h1', RepWs.ofD h2'⟩
    · cases e
  · cases e
theorem wkT_ok {K : PySem.W.Frag} {η : List Addr} {H : Hp} {w : W} {v : V} {x : Wk} (e : wkT w = some x) (r : RepW K η H w v) : ∃ a vs, v = .ref a ∧ SqT K H a vs ∧ StayW K x η H (fun H' vs => SqT K H' a vs) := by
  unfold wkT at e
  cases q : asTW w with
  | none => rw [q] at e; cases e
  | some xs =>
    rw [q] at e
    cases e
    obtain ⟨a, vs, rfl, h1, h2⟩ := asTW_ok q r
    exact ⟨a, vs, rfl, h1, fun η' H' S' f rp' _ => ⟨vs, SqT.fu f h1, RepWs.fu f _ _ h2⟩⟩
section
variable {X : Cx} {ct : Nat → Option Addr} {E : EX} {tg : Expr}
theorem walk_l {K : PySem.W.Frag} {η : List Addr} {H : Hp} {a : Addr} {x : Wk} (st : StayW K x η H (fun H' vs => SqL K H' a vs)) : WalkOk K x η H (Itl K a) where
  stop := fun η' H' S' f rp ok => by
    obtain ⟨vs, h1, h2⟩ := st η' H' S' f rp ok
    exact ⟨vs, h1, by rw [h2.length]; exact Nat.le_refl _⟩
  go := fun η' H' S' i w f rp ok e => by
    obtain ⟨vs, h1, h2⟩ := st η' H' S' f rp ok
    obtain ⟨v, e1, r1⟩ := h2.get e
    refine ⟨⟨vs, v, h1, e1⟩, fun y H'' q => ?_⟩
    obtain ⟨rfl, q⟩ := q
    have e2 := q vs h1
    rw [e1] at e2
    cases e2
    exact ⟨Fu.refl _ _, rp, r1⟩
theorem walk_t {K : PySem.W.Frag} {η : List Addr} {H : Hp} {a : Addr} {x : Wk} (st : StayW K x η H (fun H' vs => SqT K H' a vs)) : WalkOk K x η H (Itt K a) where
  stop := fun η' H' S' f rp ok => by
    obtain ⟨vs, h1, h2⟩ := st η' H' S' f rp ok
    exact ⟨vs, h1, by rw [h2.length]; exact Nat.le_refl _⟩
  go := fun η' H' S' i w f rp ok e => by
    obtain ⟨vs, h1, h2⟩ := st η' H' S' f rp ok
    obtain ⟨v, e1, r1⟩ := h2.get e
    refine ⟨⟨vs, v, h1, e1⟩, fun y H'' q => ?_⟩
    obtain ⟨rfl, q⟩ := q
    have e2 := q vs h1
    rw [e1] at e2
    cases e2
    exact ⟨Fu.refl _ _, rp, r1⟩
theorem w_list {e : Expr} {f : FE} (he : PE X e (tF (gx X ct) E f)) : PI X tg e (tI (gx X ct) E (fItL f)) := PIw (pi_list he) fun σ H R ⟨η, ρ, S, rp, er, h⟩ =>
  ⟨η, ρ, S, rp, er, FinR.mono (FinR.bind (rel := relW (gx X ct)) h) fun v H1 ⟨η1, w, S1, f1, rp1, r1, h1⟩ => by
    obtain ⟨x, e1, h2⟩ := seqR_fin h1
    obtain ⟨a, vs, rfl, hq, st⟩ := wkL_ok e1 rp1 r1
    exact ⟨a, rfl, ⟨vs, hq⟩, h2 η1 H1 _ (Fu.refl _ _) rp1 (walk_l st)⟩⟩
theorem w_tup {e : Expr} {f : FE} (he : PE X e (tF (gx X ct) E f)) : PI X tg e (tI (gx X ct) E (fItT f)) := PIw (pi_tup he) fun σ H R ⟨η, ρ, S, rp, er, h⟩ =>
  ⟨η, ρ, S, rp, er, FinR.mono (FinR.bind (rel := relW (gx X ct)) h) fun v H1 ⟨η1, w, S1, f1, rp1, r1, h1⟩ => by
    obtain ⟨x, e1, h2⟩ := seqR_fin h1
    obtain ⟨a, vs, rfl, hq, st⟩ := wkT_ok e1 r1
    exact ⟨a, rfl, ⟨vs, hq⟩, h2 η1 H1 _ (Fu.refl _ _) rp1 (walk_t st)⟩⟩
/-- lo, lo + 1 .. -/
def rangeW (lo : Int) (n : Nat) : List W := (List.range n).map fun (i : Nat) => W.d (.int (lo + (i : Int)))
theorem rangeW_get {lo : Int} {n i : Nat} {w : W} (e : (rangeW lo n)[i]? = some w) : i < n ∧ w = .d (.int (lo + (i : Int))) := by
  unfold rangeW at e
  rw [List.getElem?_map] at e
  cases q : (List.range n)[i]? with
  | none => rw [q] at e; cases e
  | some j =>
    rw [q] at e
    cases e
    obtain ⟨h1, h2⟩ := List.getElem?_eq_some_iff.mp q
    rw [List.getElem_range] at h2
    rw [List.length_range] at h1
    subst h2
    exact ⟨h1, rfl⟩
theorem walk_r {K : PySem.W.Frag} {η : List Addr} {H : Hp} {lo : Int} {n : Nat} : WalkOk K ⟨rangeW lo n, fun _ => True⟩ η H (Itr lo n) where
  stop := fun η' H' S' f rp ok => by
    show n ≤ (rangeW lo n).length
    unfold rangeW
    rw [List.length_map, List.length_range]
    exact Nat.le_refl _
  go := fun η' H' S' i w f rp ok e => by
    obtain ⟨hi, rfl⟩ := rangeW_get e
    refine ⟨hi, fun x H'' y => ?_⟩
    obtain ⟨rfl, rfl⟩ := y
    exact ⟨Fu.refl _ _, rp, .d (.int _)⟩
/-- lo, lo - 1 .. -/
def downW (lo : Int) (n : Nat) : List W := (List.range n).map fun (i : Nat) => W.d (.int (lo + (i : Int) * -1))
theorem downW_get {lo : Int} {n i : Nat} {w : W} (e : (downW lo n)[i]? = some w) : i < n ∧ w = .d (.int (lo + (i : Int) * -1)) := by
  unfold downW at e
  rw [List.getElem?_map] at e
  cases q : (List.range n)[i]? with
  | none => rw [q] at e; cases e
  | some j =>
    rw [q] at e
    cases e
    obtain ⟨h1, h2⟩ := List.getElem?_eq_some_iff.mp q
    rw [List.getElem_range] at h2
    rw [List.length_range] at h1
    subst h2
    exact ⟨h1, rfl⟩
theorem walk_c {K : PySem.W.Frag} {η : List Addr} {H : Hp} {lo : Int} {n : Nat} : WalkOk K ⟨downW lo n, fun _ => True⟩ η H (Itc lo (-1) n) where
  stop := fun η' H' S' f rp ok => by
    show n ≤ (downW lo n).length
    unfold downW
    rw [List.length_map, List.length_range]
    exact Nat.le_refl _
  go := fun η' H' S' i w f rp ok e => by
    obtain ⟨hi, rfl⟩ := downW_get e
    refine ⟨hi, fun x H'' y => ?_⟩
    obtain ⟨rfl, rfl⟩ := y
    exact ⟨Fu.refl _ _, rp, .d (.int _)⟩
/-- fits 62 bits -/
def fit62 (i : Int) : Bool := decide (-(2 ^ 62) ≤ i) && decide (i < 2 ^ 62)
theorem fit62_ok {i : Int} (h : fit62 i = true) : -(2 ^ 62) ≤ i ∧ i < 2 ^ 62 := by
  unfold fit62 at h
  rw [Bool.and_eq_true, decide_eq_true_eq, decide_eq_true_eq] at h
  exact h
def rng1 (ws : List W) (S : Store) : R Wk := match ws with
  | [.d (.int j)] => if fit62 j = true then .ok ⟨rangeW 0 j.toNat, fun _ => True⟩ S else .bad
  | _ => .bad
def rng2 (ws : List W) (S : Store) : R Wk := match ws with
  | [.d (.int i), .d (.int j)] => if fit62 i = true ∧ fit62 j = true then .ok ⟨rangeW i (j - i).toNat, fun _ => True⟩ S else .bad
  | _ => .bad
def rng3 (ws : List W) (S : Store) : R Wk := match ws with
  | [.d (.int i), .d (.int j), .d (.int c)] => if c = -1 ∧ fit62 i = true ∧ fit62 j = true then .ok ⟨downW i (i - j).toNat, fun _ => True⟩ S else .bad
  | _ => .bad
def fRng (g : List W → Store → R Wk) (a : FA) : FK := fun ρ S => (a ρ S).bind g
theorem repWs3 {K : PySem.W.Frag} {η : List Addr} {H : Hp} {w u t : W} {vs : List V} (r : RepWs K η H [w, u, t] vs) : ∃ v v' v'', vs = [v, v', v''] ∧ RepW K η H w v ∧ RepW K η H u v' ∧ RepW K η H t v'' := by
  cases r with
  | cons h1 h2 =>
    obtain ⟨v', v'', rfl, h3, h4⟩ := repWs2 h2
    exact ⟨_, _, _, rfl, h1, h3, h4⟩
theorem intW {K : PySem.W.Frag} {η : List Addr} {H : Hp} {i : Int} {v : V} (r : RepW K η H (.d (.int i)) v) : v = .int i := by
  cases r with | d r => cases r; rfl
theorem w_range1 {a : Expr} {fa : FA} {p pos : Pos} (hg : Gl X "range") (hm : X.mg "range" = none) (ha : PA X [a] (tA (gx X ct) E fa)) (hs : starEach [a] X.env = [(false, eval a X.env)] := by rfl) : PI X tg (.Call (.Name "range" p) [a] [] pos) (tI (gx X ct) E (fRng rng1 fa)) :=
  PIw (pi_range1 hg hm ha hs) fun σ H R ⟨η, ρ, S, rp, er, h⟩ => ⟨η, ρ, S, rp, er, by
    refine FinR.mono (FinR.bind (rel := relL (gx X ct)) h) fun v H1 ⟨η1, w, S1, f1, rp1, r1, h1⟩ => ?_
    unfold rng1 at h1
    split at h1
    · rename_i j
      split at h1
      · rename_i hj
        obtain ⟨v', rfl, r2⟩ := repWs1 r1
        obtain rfl := intW r2
        exact ⟨j, rfl, (fit62_ok hj).1, (fit62_ok hj).2, h1 η1 H1 _ (Fu.refl _ _) rp1 walk_r⟩
      · exact h1.elim
    · exact h1.elim⟩
theorem w_range2 {a b : Expr} {fa : FA} {p pos : Pos} (hg : Gl X "range") (hm : X.mg "range" = none) (ha : PA X [a, b] (tA (gx X ct) E fa)) (hs : starEach [a, b] X.env = [(false, eval a X.env), (false, eval b X.env)] := by rfl) (hs2 : starEach [b] X.env = [(false, eval b X.env)] := by rfl) : PI X tg (.Call (.Name "range" p) [a, b] [] pos) (tI (gx X ct) E (fRng rng2 fa)) :=
  PIw (pi_range2 hg hm ha hs hs2) fun σ H R ⟨η, ρ, S, rp, er, h⟩ => ⟨η, ρ, S, rp, er, by
    refine FinR.mono (FinR.bind (rel := relL (gx X ct)) h) fun v H1 ⟨η1, w, S1, f1, rp1, r1, h1⟩ => ?_
    unfold rng2 at h1
    split at h1
    · rename_i i j
      split at h1
      · rename_i hj
        obtain ⟨v1, v2, rfl, r2, r3⟩ := repWs2 r1
        obtain rfl := intW r2
        obtain rfl := intW r3
        exact ⟨i, j, rfl, ⟨(fit62_ok hj.1).1, (fit62_ok hj.1).2, (fit62_ok hj.2).1, (fit62_ok hj.2).2⟩, h1 η1 H1 _ (Fu.refl _ _) rp1 walk_r⟩
      · exact h1.elim
    · exact h1.elim⟩
theorem w_range3 {a b c : Expr} {fa : FA} {p pos : Pos} (hg : Gl X "range") (hm : X.mg "range" = none) (ha : PA X [a, b, c] (tA (gx X ct) E fa))
    (hs : starEach [a, b, c] X.env = (false, eval a X.env) :: starEach [b, c] X.env := by rfl) (hpl : (backTo pos (starEach [b, c] X.env)).any (·.1) = false := by rfl) : PI X tg (.Call (.Name "range" p) [a, b, c] [] pos) (tI (gx X ct) E (fRng rng3 fa)) :=
  PIw (pi_range3 hg hm ha hs hpl) fun σ H R ⟨η, ρ, S, rp, er, h⟩ => ⟨η, ρ, S, rp, er, by
    refine FinR.mono (FinR.bind (rel := relL (gx X ct)) h) fun v H1 ⟨η1, w, S1, f1, rp1, r1, h1⟩ => ?_
    unfold rng3 at h1
    split at h1
    · rename_i i j c
      split at h1
      · rename_i hj
        obtain ⟨hc, hi, hj⟩ := hj
        subst hc
        obtain ⟨v1, v2, v3, rfl, r2, r3, r4⟩ := repWs3 r1
        obtain rfl := intW r2
        obtain rfl := intW r3
        obtain rfl := intW r4
        exact ⟨i, j, -1, _, rfl, RgC.neg (fit62_ok hi).1 (fit62_ok hi).2 (fit62_ok hj).1 (fit62_ok hj).2, h1 η1 H1 _ (Fu.refl _ _) rp1 walk_c⟩
      · exact h1.elim
    · exact h1.elim⟩
end
end VI
set_option Elab.async false
set_option linter.all false
set_option maxRecDepth 100000
namespace VI
open PySem PySem.Spec PyProof.Rows L2

/-! two sequences side by side, each a list (true) or a tuple (false) -/
def SqB (K : PySem.W.Frag) (k : Bool) (H : Hp) (a : Addr) (xs : List V) : Prop := match k with
  | true => SqL K H a xs
  | false => SqT K H a xs
def ItB (k : Bool) (h : Heap) (it a : Addr) (i : Nat) : Prop := match k with
  | true => h.IsListIter it a i
  | false => h.IsTupleIter it a i
def CoB (k : Bool) (h : Heap) (a : Addr) (its : Array Value) : Prop := match k with
  | true => h.IsList a its
  | false => h.IsTuple a its
def obB (k : Bool) (a : Addr) : Obj := match k with
  | true => { cls := .type "list_iterator", data := .fields #[.ref a, .int 0 0] }
  | false => { cls := .type "tuple_iterator", data := .fields #[.ref a, .int 0 0] }
theorem begB (k : Bool) (a : Addr) (its : Array Value) : Begins (.ref a) (obB k a) fun h => CoB k h a its := by
  cases k
  · exact begins_tuple a its
  · exact begins_list a its
theorem drwB {P : Program} {w : World} {A : Around} (hh : A.handled = none) (k : Bool) (it a : Addr) (hne : a ≠ it) (its : Array Value) :
    Draws P w A it [it, a] its.size (fun i v => its[i]? = some v) (fun i h => ItB k h it a i ∧ CoB k h a its) := by
  cases k
  · exact .tuple hh it a hne its
  · exact .list hh it a hne its
theorem ItB.new {k : Bool} {h : Heap} {it a : Addr} (e : h.get? it = some (obB k a)) : ItB k h it a 0 := by
  cases k
  · exact ⟨_, e, rfl, rfl⟩
  · exact ⟨_, e, rfl, rfl⟩
theorem ItB.at {k : Bool} {h h' : Heap} {it a : Addr} {i : Nat} (t : ItB k h it a i) (e : ∀ o, h.get? it = some o → h'.get? it = some o) : ItB k h' it a i := by
  cases k
  · obtain ⟨o, q, r⟩ := t
    exact ⟨o, e o q, r⟩
  · obtain ⟨o, q, r⟩ := t
    exact ⟨o, e o q, r⟩
theorem ItB.obj {k : Bool} {h : Heap} {it a : Addr} {i : Nat} (t : ItB k h it a i) : ∃ o, h.get? it = some o ∧ ∀ v, o.data ≠ .cell v := by
  cases k
  · obtain ⟨o, q, _, r⟩ := t
    exact ⟨o, q, fun v z => by rw [r] at z; cases z⟩
  · obtain ⟨o, q, _, r⟩ := t
    exact ⟨o, q, fun v z => by rw [r] at z; cases z⟩
theorem CoB.lt {k : Bool} {h : Heap} {a : Addr} {its : Array Value} (t : CoB k h a its) : a < h.objs.size := by
  cases k
  · obtain ⟨o, q, _⟩ := t
    exact Heap.lt_size q
  · obtain ⟨o, q, _⟩ := t
    exact Heap.lt_size q
theorem SqB.of {X : Cx} {k : Bool} {pins : List (Addr × Obj)} {σ : L2.St} {H : Hp} {s : Shared} {a : Addr} {xs : List V} (I : Inv X pins σ H s) (q : SqB X.K k H a xs) : ∃ its : List Value, Vals xs its ∧ CoB k s.heap a its.toArray := by
  cases k
  · obtain ⟨its, r, p, _⟩ := I.tuple q
    obtain ⟨o, e, c, n, d⟩ := p
    exact ⟨its, r, o, e, c, n, d⟩
  · obtain ⟨its, r, p, _⟩ := I.list q
    exact ⟨its, r, p.isList⟩
theorem SqB.inj {X : Cx} {k : Bool} {pins : List (Addr × Obj)} {σ : L2.St} {H : Hp} {s : Shared} {a : Addr} {xs ys : List V} (I : Inv X pins σ H s) (q : SqB X.K k H a xs) (q' : SqB X.K k H a ys) : xs = ys := by
  cases k
  · exact I.tuple_inj q q'
  · exact I.list_inj q q'
def ItzB (K : PySem.W.Frag) (k1 k2 : Bool) (a b : Addr) : It :=
  ⟨fun i H => ∃ (xs ys : List V) (x y : V), SqB K k1 H a xs ∧ SqB K k2 H b ys ∧ xs[i]? = some x ∧ ys[i]? = some y,
    fun i H v H' => ∃ T x y, v = .ref T ∧ H T = none ∧ H' = upd H T (.tup [x, y]) ∧ (∀ xs, SqB K k1 H a xs → xs[i]? = some x) ∧ ∀ ys, SqB K k2 H b ys → ys[i]? = some y,
    fun i H => ∃ xs ys : List V, SqB K k1 H a xs ∧ SqB K k2 H b ys ∧ i = min xs.length ys.length⟩
/-- where the iterator of a pair stands -/
def AtZ (k1 k2 : Bool) (a b z TI TO i1 i2 : Addr) (i : Nat) (h : Heap) : Prop :=
  IsZip h z TI TO .none ∧ IsTupOf2 h TI (.ref i1) (.ref i2) ∧ (∃ x y, IsTupOf2 h TO x y) ∧ ItB k1 h i1 a i ∧ ItB k2 h i2 b i
theorem mem5 {c z TI TO i1 i2 : Addr} (h : c ∈ [z, TI, TO, i1, i2]) : c = z ∨ c = TI ∨ c = TO ∨ c = i1 ∨ c = i2 := by simpa using h
theorem goZ {X : Cx} {pins : List (Addr × Obj)} {σ : L2.St} {H : Hp} {s : Shared} (I : Inv X pins σ H s) (hc : X.calm = true) {elts : List Expr} {kk : Nat} {tpos : Pos} {k1 k2 : Bool} {a b z TI TO i1 i2 : Addr} (D : ZipSep2 z TI TO i1 i2 [i1, a] [i2, b]) (h1 : a ≠ i1) (h2 : b ≠ i2) (us ws : List Value) :
    GoesN X.prog X.w X.A (.Tuple elts kk tpos) z (z :: TI :: TO :: ([i1, a] ++ [i2, b])) [z, TO, i1, i2] (min us.toArray.size ws.toArray.size) (fun i h₀ v h => ∃ T x y, v = .ref T ∧ h₀.objs.size ≤ T ∧ us.toArray[i]? = some x ∧ ws.toArray[i]? = some y ∧ h.IsTuple T #[x, y])
      (fun i h => IsZip h z TI TO .none ∧ IsTupOf2 h TI (.ref i1) (.ref i2) ∧ (∃ x y, IsTupOf2 h TO x y) ∧ (ItB k1 h i1 a i ∧ CoB k1 h a us.toArray) ∧ ItB k2 h i2 b i ∧ CoB k2 h b ws.toArray) :=
  GoesN.zip2 D (drwB (A := X.A.in1) (I.ok.hd hc) k1 i1 a h1 us.toArray) (drwB (A := X.A.in1) (I.ok.hd hc) k2 i2 b h2 ws.toArray)
theorem turn_zipB {P : Program} {w : World} {K : PySem.W.Frag} {elts : List Expr} {kk : Nat} {tpos : Pos} {k1 k2 : Bool} {a b z TI TO i1 i2 : Addr} (D : ZipSep2 z TI TO i1 i2 [i1, a] [i2, b]) (h1 : a ≠ i1) (h2 : b ≠ i2) :
    Turn P w K (.Tuple elts kk tpos) (ItzB K k1 k2 a b) [z, TI, TO, i1, i2] z (AtZ k1 k2 a b z TI TO i1 i2) where
  mem := by simp
  obj := fun i h st c hc => by
    obtain ⟨hz, hI, ⟨x, y, hO⟩, q1, q2⟩ := st
    rcases mem5 hc with q | q | q | q | q
    · rw [q]; exact ⟨_, hz, fun v q => nomatch q⟩
    · rw [q]; exact ⟨_, hI, fun v q => nomatch q⟩
    · rw [q]; exact ⟨_, hO, fun v q => nomatch q⟩
    · rw [q]; exact q1.obj
    · rw [q]; exact q2.obj
  keep := fun i h h' st k => by
    obtain ⟨hz, hI, ⟨x, y, hO⟩, q1, q2⟩ := st
    exact ⟨k z (by simp) _ hz, k TI (by simp) _ hI, ⟨x, y, k TO (by simp) _ hO⟩, q1.at fun o q => k i1 (by simp) o q, q2.at fun o q => k i2 (by simp) o q⟩
  item := by
    intro X hP hw hK hc i pins s σ H E I hf st hg
    subst hP hw hK
    obtain ⟨xs, ys, x, y, sx, sy, ex, ey⟩ := hg
    obtain ⟨us, rx, cx⟩ := SqB.of I sx
    obtain ⟨ws, ry, cy⟩ := SqB.of I sy
    obtain ⟨u, hu, ru⟩ := rx.get ex
    obtain ⟨t, ht, rt⟩ := ry.get ey
    obtain ⟨lu, eu⟩ := List.getElem?_eq_some_iff.mp hu
    obtain ⟨lt, et⟩ := List.getElem?_eq_some_iff.mp ht
    obtain ⟨hz, hI, hO, q1, q2⟩ := st
    refine (goZ I hc D h1 h2 us ws).goes i s (fun v s2 => ∃ x H', Inv X pins σ H' s2 ∧ RelV x v ∧ (ItzB X.K k1 k2 a b).yld i H x H' ∧ AtZ k1 k2 a b z TI TO i1 i2 (i + 1) s2.heap ∧ ∀ b ∈ [z, TI, TO, i1, i2], H' b = none) E (by rw [List.size_toArray, List.size_toArray]; exact Nat.lt_min.mpr ⟨lu, lt⟩) ⟨hz, hI, hO, ⟨q1, cx⟩, ⟨q2, cy⟩⟩ fun v h' tk yy st' hk htk => ?_
    obtain ⟨T, p, q, rfl, hT, hp, hq, isT⟩ := yy
    obtain ⟨hz', hI', hO', ⟨q1', _⟩, ⟨q2', _⟩⟩ := st'
    have e1 : p = u := by
      have z : us.toArray[i]? = some p := hp
      rw [List.getElem?_toArray, hu] at z
      exact (Option.some.inj z).symm
    have e2 : q = t := by
      have z : ws.toArray[i]? = some q := hq
      rw [List.getElem?_toArray, ht] at z
      exact (Option.some.inj z).symm
    subst e1 e2
    obtain ⟨oT, gT, cT, nT, dT⟩ := isT
    have new : ObjOk X.prog X.w (upd H T (.tup [x, y])) h' T (.tup [x, y]) := ⟨by show 2 ≤ sizeLine; decide, [p, q], .cons ru (.cons rt .nil), ⟨oT, gT, cT, nT, dT⟩⟩
    have I1 : Inv X pins σ (upd H T (.tup [x, y])) { s with heap := h', toks := tk } :=
      I.turnedNew (ch := [z, TI, TO, i1, i2]) (fun c o hb q' => hk c o (fun m => hb (by simp at m ⊢; rcases m with m | m | m | m <;> simp [m])) q') hf hT new
    refine ⟨.ref T, _, I1, rfl, ⟨T, x, y, rfl, I.hok.fresh hT, rfl, fun l hl => by rw [SqB.inj I hl sx]; exact ex, fun l hl => by rw [SqB.inj I hl sy]; exact ey⟩, ⟨hz', hI', hO', q1', q2'⟩, fun c hcm => ?_⟩
    have hlt : c < s.heap.objs.size := by
      obtain ⟨x0, y0, hO⟩ := hO
      rcases mem5 hcm with m | m | m | m | m
      · rw [m]; exact Heap.lt_size hz
      · rw [m]; exact Heap.lt_size hI
      · rw [m]; exact Heap.lt_size hO
      · rw [m]; obtain ⟨_, g, _⟩ := q1.obj; exact Heap.lt_size g
      · rw [m]; obtain ⟨_, g, _⟩ := q2.obj; exact Heap.lt_size g
    rw [upd_ne (Nat.ne_of_lt (Nat.lt_of_lt_of_le hlt hT))]
    exact (hf c hcm).1
  done := by
    intro X hP hw hK hc i pins s σ H E I hf st hg
    subst hP hw hK
    obtain ⟨xs, ys, sx, sy, ei⟩ := hg
    obtain ⟨us, rx, cx⟩ := SqB.of I sx
    obtain ⟨ws, ry, cy⟩ := SqB.of I sy
    obtain ⟨hz, hI, hO, q1, q2⟩ := st
    have en : i = min us.toArray.size ws.toArray.size := by rw [List.size_toArray, List.size_toArray, ← rx.length, ← ry.length]; exact ei
    refine (goZ (elts := elts) (kk := kk) (tpos := tpos) I hc D h1 h2 us ws).stops s (fun s1 => Inv X pins σ H s1) E ⟨hz, hI, hO, ⟨?_, cx⟩, ⟨?_, cy⟩⟩ fun h' tk hk htk => ?_
    · rw [← en]; exact q1
    · rw [← en]; exact q2
    · exact I.turnedL (ch := [z, TI, TO, i1, i2]) (fun c o hb q' => hk c o (fun m => hb (by simp at m ⊢; rcases m with m | m | m | m <;> simp [m])) q') hf
  self := fun A i s Q E st h => wpAny_pyIter_zip st.1 h

def iZipB (K : PySem.W.Frag) (ta : TA) : TI := fun σ H R => ta σ H fun vs H1 => ∃ (k1 k2 : Bool) (a b : Addr) (xs ys : List V), vs = [.ref a, .ref b] ∧ SqB K k1 H1 a xs ∧ SqB K k2 H1 b ys ∧ R (ItzB K k1 k2 a b) H1
theorem pi_zipB {X : Cx} {e e2 : Expr} {ta : TA} {p pos tpos : Pos} {elts : List Expr} {kk : Nat} (hg : Gl X "zip") (hm : X.mg "zip" = none) (ha : PA X [e, e2] ta)
    (hs : starEach [e, e2] X.env = (false, eval e X.env) :: starEach [e2] X.env := by rfl) (hpl : (backTo pos (starEach [e2] X.env)).any (·.1) = false := by rfl) :
    PI X (.Tuple elts kk tpos) (.Call (.Name "zip" p) [e, e2] [] pos) (iZipB X.K ta) := ⟨fun pins s σ H R I h => by
  refine Call_ (ld_blt I hg hm PyProof.Rows.boot_zip (PyProof.Rows.callWith_type1 (thn (ha.run pos pins s σ H _ I h) fun us s1 ⟨vs, H1, I1, r1, q1⟩ => ?_) hs hpl))
  obtain ⟨k1, k2, a, b, xs, ys, rfl, sx, sy, q⟩ := q1
  cases r1 with
  | cons r rr =>
    cases rr with
    | cons r' rr =>
      cases rr
      cases r
      cases r'
      obtain ⟨us, rx, cx⟩ := SqB.of I1 sx
      obtain ⟨ws, ry, cy⟩ := SqB.of I1 sy
      refine zip_begins2 (begB k1 a us.toArray) (begB k2 b ws.toArray) cx cy fun h' hz hI hO g1 g2 hsz hk => wpAny_pyIter_zip hz ?_
      have I2 : Inv X pins σ H1 { s1 with heap := h' } := I1.kept (t' := s1.toks) hk
      refine ⟨s1.heap.objs.size + 4, [s1.heap.objs.size + 4, s1.heap.objs.size + 2, s1.heap.objs.size + 3, s1.heap.objs.size, s1.heap.objs.size + 1], _, _, H1, rfl, I2,
        turn_zipB (zip_sep2 (fun c m => by rw [List.mem_singleton.mp m]; exact cx.lt) fun c m => by rw [List.mem_singleton.mp m]; exact cy.lt) (Nat.ne_of_lt cx.lt) (Nat.ne_of_lt (Nat.lt_succ_of_lt cy.lt)), ⟨hz, hI, ⟨_, _, hO⟩, ItB.new g1, ItB.new g2⟩, fun c m => ?_, q⟩
      have hle : s1.heap.objs.size ≤ c := by
        rcases mem5 m with z | z | z | z | z
        · rw [z]; exact Nat.le_add_right _ _
        · rw [z]; exact Nat.le_add_right _ _
        · rw [z]; exact Nat.le_add_right _ _
        · rw [z]; exact Nat.le_refl _
        · rw [z]; exact Nat.le_add_right _ _
      exact I1.fpOk hle (I1.hok.fresh hle)⟩

/-! enumerate -/
def IteB (K : PySem.W.Frag) (k : Bool) (a : Addr) : It :=
  ⟨fun i H => ∃ (xs : List V) (x : V), SqB K k H a xs ∧ xs[i]? = some x,
    fun i H v H' => ∃ T x, v = .ref T ∧ H T = none ∧ H' = upd H T (.tup [.int (i : Nat), x]) ∧ ∀ xs, SqB K k H a xs → xs[i]? = some x,
    fun i H => ∃ xs : List V, SqB K k H a xs ∧ i = xs.length⟩
def AtE (k : Bool) (a e it : Addr) (i : Nat) (h : Heap) : Prop := (∃ old, IsEnum h e it (0 + (i : Int)) old) ∧ ItB k h it a i
theorem mem2 {c e it : Addr} (h : c ∈ [e, it]) : c = e ∨ c = it := by simpa using h
theorem goE {X : Cx} {pins : List (Addr × Obj)} {σ : L2.St} {H : Hp} {s : Shared} (I : Inv X pins σ H s) (hc : X.calm = true) {elts : List Expr} {kk : Nat} {tpos : Pos} {k : Bool} {a e it : Addr} (h1 : a ≠ it) (h2 : e ≠ it) (h3 : e ≠ a) (us : List Value) :
    GoesN X.prog X.w X.A (.Tuple elts kk tpos) e (e :: [it, a]) [e, it] us.toArray.size (fun i h₀ v h => ∃ T t x, v = .ref T ∧ h₀.objs.size ≤ T ∧ us.toArray[i]? = some x ∧ h.IsTuple T #[.int (0 + (i : Int)) t, x])
      (fun i h => (∃ old, IsEnum h e it (0 + (i : Int)) old) ∧ ItB k h it a i ∧ CoB k h a us.toArray) :=
  GoesN.enumFrom 0 (drwB (A := X.A.in1) (I.ok.hd hc) k it a h1 us.toArray) e h2 (by simp [h2, h3]) (by simp)
theorem turn_enumB {P : Program} {w : World} {K : PySem.W.Frag} {elts : List Expr} {kk : Nat} {tpos : Pos} {k : Bool} {a e it : Addr} (h1 : a ≠ it) (h2 : e ≠ it) (h3 : e ≠ a) :
    Turn P w K (.Tuple elts kk tpos) (IteB K k a) [e, it] e (AtE k a e it) where
  mem := by simp
  obj := fun i h st c hc => by
    obtain ⟨⟨old, he⟩, q1⟩ := st
    rcases mem2 hc with q | q
    · rw [q]; exact ⟨_, he, fun v q => nomatch q⟩
    · rw [q]; exact q1.obj
  keep := fun i h h' st k => by
    obtain ⟨⟨old, he⟩, q1⟩ := st
    exact ⟨⟨old, k e (by simp) _ he⟩, q1.at fun o q => k it (by simp) o q⟩
  item := by
    intro X hP hw hK hc i pins s σ H E I hf st hg
    subst hP hw hK
    obtain ⟨xs, x, sx, ex⟩ := hg
    obtain ⟨us, rx, cx⟩ := SqB.of I sx
    obtain ⟨u, hu, ru⟩ := rx.get ex
    obtain ⟨lu, eu⟩ := List.getElem?_eq_some_iff.mp hu
    obtain ⟨he, q1⟩ := st
    refine (goE I hc h1 h2 h3 us).goes i s (fun v s2 => ∃ x H', Inv X pins σ H' s2 ∧ RelV x v ∧ (IteB X.K k a).yld i H x H' ∧ AtE k a e it (i + 1) s2.heap ∧ ∀ b ∈ [e, it], H' b = none) E (by rw [List.size_toArray]; exact lu) ⟨he, q1, cx⟩ fun v h' tk yy st' hk htk => ?_
    obtain ⟨T, t, p, rfl, hT, hp, isT⟩ := yy
    obtain ⟨he', q1', _⟩ := st'
    have e1 : p = u := by
      have z : us.toArray[i]? = some p := hp
      rw [List.getElem?_toArray, hu] at z
      exact (Option.some.inj z).symm
    subst e1
    obtain ⟨oT, gT, cT, nT, dT⟩ := isT
    have ei : (0 : Int) + (i : Int) = ((i : Nat) : Int) := by omega
    rw [ei] at dT
    have new : ObjOk X.prog X.w (upd H T (.tup [.int (i : Nat), x])) h' T (.tup [.int (i : Nat), x]) := ⟨by show 2 ≤ sizeLine; decide, [.int (i : Nat) t, p], .cons ⟨_, rfl⟩ (.cons ru .nil), ⟨oT, gT, cT, nT, dT⟩⟩
    have I1 : Inv X pins σ (upd H T (.tup [.int (i : Nat), x])) { s with heap := h', toks := tk } :=
      I.turnedNew (ch := [e, it]) (fun c o hb q' => hk c o hb q') hf hT new
    refine ⟨.ref T, _, I1, rfl, ⟨T, x, rfl, I.hok.fresh hT, rfl, fun l hl => by rw [SqB.inj I hl sx]; exact ex⟩, ⟨he', q1'⟩, fun c hcm => ?_⟩
    have hlt : c < s.heap.objs.size := by
      obtain ⟨old, he⟩ := he
      rcases mem2 hcm with m | m
      · rw [m]; exact Heap.lt_size he
      · rw [m]; obtain ⟨_, g, _⟩ := q1.obj; exact Heap.lt_size g
    rw [upd_ne (Nat.ne_of_lt (Nat.lt_of_lt_of_le hlt hT))]
    exact (hf c hcm).1
  done := by
    intro X hP hw hK hc i pins s σ H E I hf st hg
    subst hP hw hK
    obtain ⟨xs, sx, ei⟩ := hg
    obtain ⟨us, rx, cx⟩ := SqB.of I sx
    obtain ⟨he, q1⟩ := st
    have en : i = us.toArray.size := by rw [List.size_toArray, ← rx.length]; exact ei
    subst en
    exact (goE (elts := elts) (kk := kk) (tpos := tpos) I hc h1 h2 h3 us).stops s (fun s1 => Inv X pins σ H s1) E ⟨he, q1, cx⟩ fun h' tk hk htk => I.turnedL (ch := [e, it]) (fun c o hb q' => hk c o hb q') hf
  self := fun A i s Q E st h => let ⟨⟨_, he⟩, _⟩ := st; wpAny_pyIter_enum he h
set_option maxHeartbeats 1000000 in
theorem enum1_meets {u : Value} {ob : Obj} {C : Heap → Prop} (B : Begins u ob C) :
    Meets (Builtin.«enumerate.__new__» ⟨[.type "enumerate", u], []⟩) (fun _ R s => C s.heap ∧ R (.ok (.ret (.ref (s.heap.push ob).objs.size))) { s with heap := (s.heap.push ob).push { cls := .type "enumerate", data := .fields #[.none, .bool false, .ref s.heap.objs.size, rawInt 0, .none, .none] } }) :=
  .of_wp fun prog w A R s ⟨c, hR⟩ => by
    obtain ⟨hp, gn, dr, tk, os⟩ := s
    have sub1 := sub_enumerate
    have it1 : ∀ {A1 : Around} {E1 : Value → Shared → Prop} {Q1 : Value → Shared → Prop}, Q1 (.ref hp.objs.size) ⟨hp.push ob, gn, dr, tk, os⟩ → wpAny (model prog w) A1 (pyIter u) Q1 E1 ⟨hp, gn, dr, tk, os⟩ :=
      fun z => B.iter prog w _ _ ⟨hp, gn, dr, tk, os⟩ _ c z
    wp_walk using it1
    refine wpAny_stack_any fun _ => wpAny_pure ?_
    split
    · rename_i cl _ _ _ _ _
      cases (cl == Value.type "enumerate") <;> (wp_walk using it1; exact ⟨_, rfl, hR⟩)
    · wp_walk using it1
      exact ⟨_, rfl, hR⟩
theorem enum1_begins {P : Program} {w : World} {A : Around} {E : Value → Shared → Prop} {s : Shared} {u : Value} {ob : Obj} {C : Heap → Prop} {Q : Value → Shared → Prop} (B : Begins u ob C) (c : C s.heap)
    (h : ∀ h', IsEnum h' (s.heap.objs.size + 1) s.heap.objs.size 0 .none → h'.get? s.heap.objs.size = some ob → (∀ b o, s.heap.get? b = some o → h'.get? b = some o) → Q (.ref (s.heap.objs.size + 1)) { s with heap := h' }) :
    wpAny (model P w) A (call (.type "enumerate") [u]) Q E s := by
  refine callType_new F.called_enumerate (by decide) (F.typeCall_enumerate_1 _) (F.newCall_enumerate_1 _) (fun obj => F.args_object_init_2 obj _) F.entry_enumerate_new (enum1_meets B) ⟨c, ?_⟩
  have z1 : (s.heap.push ob).objs.size = s.heap.objs.size + 1 := Heap.size_push ..
  show _ ∧ _
  have g := Heap.get?_push_size (s.heap.push ob) (o := { cls := .type "enumerate", data := .fields #[.none, .bool false, .ref s.heap.objs.size, rawInt 0, .none, .none] }) rfl
  rw [z1] at g ⊢
  exact ⟨⟨_, g, rfl⟩, h _ g (Heap.get?_push_of_some _ (Heap.get?_push_size _ B.free)) fun b o x => Heap.get?_push_of_some _ (Heap.get?_push_of_some _ x)⟩
def iEnumB (K : PySem.W.Frag) (ta : TA) : TI := fun σ H R => ta σ H fun vs H1 => ∃ (k : Bool) (a : Addr) (xs : List V), vs = [.ref a] ∧ SqB K k H1 a xs ∧ R (IteB K k a) H1
theorem pi_enumB {X : Cx} {e : Expr} {ta : TA} {p pos tpos : Pos} {elts : List Expr} {kk : Nat} (hg : Gl X "enumerate") (hm : X.mg "enumerate" = none) (ha : PA X [e] ta) (hs : starEach [e] X.env = [(false, eval e X.env)] := by rfl) :
    PI X (.Tuple elts kk tpos) (.Call (.Name "enumerate" p) [e] [] pos) (iEnumB X.K ta) := ⟨fun pins s σ H R I h => by
  refine Call_ (ld_blt I hg hm boot_enumerate (PyProof.Rows.callWith_type1 (thn (ha.run pos pins s σ H _ I h) fun us s1 ⟨vs, H1, I1, r1, q1⟩ => ?_) hs rfl))
  obtain ⟨k, a, xs, rfl, sx, q⟩ := q1
  cases r1 with
  | cons r rr =>
    cases rr
    cases r
    obtain ⟨us, rx, cx⟩ := SqB.of I1 sx
    refine enum1_begins (begB k a us.toArray) cx fun h' he g1 hk => wpAny_pyIter_enum he ?_
    have I2 : Inv X pins σ H1 { s1 with heap := h' } := I1.kept (t' := s1.toks) hk
    refine ⟨s1.heap.objs.size + 1, [s1.heap.objs.size + 1, s1.heap.objs.size], _, _, H1, rfl, I2,
      turn_enumB (Nat.ne_of_lt cx.lt) (Nat.succ_ne_self _) (Nat.ne_of_gt (Nat.lt_succ_of_lt cx.lt)), ⟨⟨.none, he⟩, ItB.new g1⟩, fun c m => ?_, q⟩
    have hle : s1.heap.objs.size ≤ c := by
      rcases mem2 m with z | z
      · rw [z]; exact Nat.le_add_right _ _
      · rw [z]; exact Nat.le_refl _
    exact I1.fpOk hle (I1.hok.fresh hle)⟩

/-! their rules -/
/-- a sequence of either kind, for a walk -/
def wkS (w : W) (S : Store) : Option Wk := match wkL w S with
  | some x => some x
  | none => wkT w
theorem wkS_ok {K : PySem.W.Frag} {η : List Addr} {H : Hp} {S : Store} {w : W} {v : V} {x : Wk} (e : wkS w S = some x) (rp : Rp K η H S) (r : RepW K η H w v) : ∃ (k : Bool) (a : Addr) (vs : List V), v = .ref a ∧ SqB K k H a vs ∧ StayW K x η H (fun H' vs => SqB K k H' a vs) := by
  unfold wkS at e
  split at e
  · rename_i y q
    cases e
    exact ⟨true, wkL_ok q rp r⟩
  · exact ⟨false, wkT_ok e r⟩
def ItsB (K : PySem.W.Frag) (k : Bool) (a : Addr) : It := match k with
  | true => Itl K a
  | false => Itt K a
theorem turn_seqB {P : Program} {w : World} {K : PySem.W.Frag} {tg : Expr} (k : Bool) (a it : Addr) : Turn P w K tg (ItsB K k a) [it] it (fun i h => ItB k h it a i) := by
  cases k
  · exact turn_tuple a it
  · exact turn_list a it
theorem walk_s {k : Bool} {K : PySem.W.Frag} {η : List Addr} {H : Hp} {a : Addr} {x : Wk} (st : StayW K x η H (fun H' vs => SqB K k H' a vs)) : WalkOk K x η H (ItsB K k a) := by
  cases k
  · exact walk_t st
  · exact walk_l st
def iSeqB (K : PySem.W.Frag) (te : TE) : TI := fun σ H R => te σ H fun v H1 => ∃ (k : Bool) (a : Addr) (xs : List V), v = .ref a ∧ SqB K k H1 a xs ∧ R (ItsB K k a) H1
theorem pi_seqB {X : Cx} {tg e : Expr} {te : TE} (he : PE X e te) : PI X tg e (iSeqB X.K te) := ⟨fun pins s σ H R I h => thn (he.run pins s σ H _ I h) fun u s1 ⟨v, H1, I1, r1, k, a, xs, hv, sx, q⟩ => by
  subst hv
  cases r1
  obtain ⟨us, rx, cx⟩ := SqB.of I1 sx
  refine (begB k a us.toArray).iter _ _ _ _ _ _ cx ⟨s1.heap.objs.size, [s1.heap.objs.size], _, _, H1, rfl, I1.kept (t' := s1.toks) fun b o z => Heap.get?_push_of_some _ z, turn_seqB k a _, ItB.new (Heap.get?_push_size _ (begB k a us.toArray).free), fun b m => ?_, q⟩
  rw [List.mem_singleton.mp m]
  exact I1.fpOk (Nat.le_refl _) (I1.hok.fresh (Nat.le_refl _))⟩
def fItS (a : FE) : FK := fun ρ S => (a ρ S).bind fun w S1 => seqR (wkS w S1) S1
theorem w_seq {X : Cx} {ct : Nat → Option Addr} {E : EX} {tg e : Expr} {f : FE} (he : PE X e (tF (gx X ct) E f)) : PI X tg e (tI (gx X ct) E (fItS f)) := PIw (pi_seqB he) fun σ H R ⟨η, ρ, S, rp, er, h⟩ =>
  ⟨η, ρ, S, rp, er, FinR.mono (FinR.bind (rel := relW (gx X ct)) h) fun v H1 ⟨η1, w, S1, f1, rp1, r1, h1⟩ => by
    obtain ⟨x, e1, h2⟩ := seqR_fin h1
    obtain ⟨k, a, vs, rfl, hq, st⟩ := wkS_ok e1 rp1 r1
    exact ⟨k, a, vs, rfl, hq, h2 η1 H1 _ (Fu.refl _ _) rp1 (walk_s st)⟩⟩
def pairW (u v : W) : W := mkT [u, v]
def zipK (ws : List W) (S : Store) : R Wk := match ws with
  | [u, v] => match wkS u S, wkS v S with
    | some x, some y => .ok ⟨List.zipWith pairW x.xs y.xs, fun S' => x.ok S' ∧ y.ok S'⟩ S
    | _, _ => .bad
  | _ => .bad
def enumW : Nat → List W → List W
  | _, [] => []
  | i, w :: ws => mkT [.d (.int (i : Nat)), w] :: enumW (i + 1) ws
def enumK (ws : List W) (S : Store) : R Wk := match ws with
  | [u] => match wkS u S with
    | some x => .ok ⟨enumW 0 x.xs, x.ok⟩ S
    | none => .bad
  | _ => .bad
theorem RepW.pair {K : PySem.W.Frag} {η : List Addr} {H : Hp} {w u : W} {v v' : V} {T : Addr} (hT : H T = none) (r : RepW K η H w v) (r' : RepW K η H u v') : RepW K η (upd H T (.tup [v, v'])) (mkT [w, u]) (.ref T) :=
  RepWs.mk (SqT.of upd_same) (.cons (RepW.fu (fu_new hT) _ _ r) (.cons (RepW.fu (fu_new hT) _ _ r') .nil))
theorem walk_z {k1 k2 : Bool} {K : PySem.W.Frag} {η : List Addr} {H : Hp} {a b : Addr} {x y : Wk} (s1 : StayW K x η H (fun H' vs => SqB K k1 H' a vs)) (s2 : StayW K y η H (fun H' vs => SqB K k2 H' b vs)) :
    WalkOk K ⟨List.zipWith pairW x.xs y.xs, fun S' => x.ok S' ∧ y.ok S'⟩ η H (ItzB K k1 k2 a b) where
  stop := fun η' H' S' f rp ok => by
    obtain ⟨vs, h1, h2⟩ := s1 η' H' S' f rp ok.1
    obtain ⟨us, h3, h4⟩ := s2 η' H' S' f rp ok.2
    exact ⟨vs, us, h1, h3, by rw [List.length_zipWith, h2.length, h4.length]⟩
  go := fun η' H' S' i w f rp ok e => by
    obtain ⟨vs, h1, h2⟩ := s1 η' H' S' f rp ok.1
    obtain ⟨us, h3, h4⟩ := s2 η' H' S' f rp ok.2
    obtain ⟨p, q, ep, eq, ew⟩ := List.getElem?_zipWith_eq_some.mp e
    obtain ⟨v, ev, rv⟩ := h2.get ep
    obtain ⟨u, eu, ru⟩ := h4.get eq
    refine ⟨⟨vs, us, v, u, h1, h3, ev, eu⟩, fun z H'' yl => ?_⟩
    obtain ⟨T, v', u', rfl, hT, rfl, c1, c2⟩ := yl
    have e1 := c1 vs h1
    have e2 := c2 us h3
    rw [ev] at e1
    rw [eu] at e2
    cases e1
    cases e2
    rw [← ew]
    exact ⟨fu_new hT, rp.new hT, RepW.pair hT rv ru⟩
theorem enumW_length : ∀ (ws : List W) (i : Nat), (enumW i ws).length = ws.length
  | [], _ => rfl
  | _ :: ws, i => by rw [enumW, List.length_cons, List.length_cons, enumW_length ws]
theorem enumW_get : ∀ {ws : List W} {j i : Nat} {w : W}, (enumW j ws)[i]? = some w → ∃ u, ws[i]? = some u ∧ w = mkT [.d (.int ((j + i : Nat) : Int)), u]
  | [], _, _, _, e => by rw [enumW] at e; simp at e
  | u :: ws, j, 0, w, e => by
    rw [enumW] at e
    simp at e
    exact ⟨u, by simp, e.symm⟩
  | u :: ws, j, i + 1, w, e => by
    rw [enumW] at e
    obtain ⟨t, e1, e2⟩ := enumW_get (ws := ws) (j := j + 1) (i := i) (by simpa using e)
    refine ⟨t, by simpa using e1, ?_⟩
    rw [e2]
    have z : j + 1 + i = j + (i + 1) := by omega
    rw [z]
theorem walk_e {k : Bool} {K : PySem.W.Frag} {η : List Addr} {H : Hp} {a : Addr} {x : Wk} (s1 : StayW K x η H (fun H' vs => SqB K k H' a vs)) : WalkOk K ⟨enumW 0 x.xs, x.ok⟩ η H (IteB K k a) where
  stop := fun η' H' S' f rp ok => by
    obtain ⟨vs, h1, h2⟩ := s1 η' H' S' f rp ok
    exact ⟨vs, h1, by show (enumW 0 x.xs).length = vs.length; rw [enumW_length, h2.length]⟩
  go := fun η' H' S' i w f rp ok e => by
    obtain ⟨vs, h1, h2⟩ := s1 η' H' S' f rp ok
    obtain ⟨p, ep, rfl⟩ := enumW_get e
    obtain ⟨v, ev, rv⟩ := h2.get ep
    refine ⟨⟨vs, v, h1, ev⟩, fun z H'' yl => ?_⟩
    obtain ⟨T, v', rfl, hT, rfl, c1⟩ := yl
    have e1 := c1 vs h1
    rw [ev] at e1
    cases e1
    rw [Nat.zero_add]
    exact ⟨fu_new hT, rp.new hT, RepW.pair hT (.d (.int _)) rv⟩
section
variable {X : Cx} {ct : Nat → Option Addr} {E : EX}
theorem w_zip {e e2 : Expr} {fa : FA} {p pos tpos : Pos} {elts : List Expr} {kk : Nat} (hg : Gl X "zip") (hm : X.mg "zip" = none) (ha : PA X [e, e2] (tA (gx X ct) E fa))
    (hs : starEach [e, e2] X.env = (false, eval e X.env) :: starEach [e2] X.env := by rfl) (hpl : (backTo pos (starEach [e2] X.env)).any (·.1) = false := by rfl) :
    PI X (.Tuple elts kk tpos) (.Call (.Name "zip" p) [e, e2] [] pos) (tI (gx X ct) E (fRng zipK fa)) := PIw (pi_zipB hg hm ha hs hpl) fun σ H R ⟨η, ρ, S, rp, er, h⟩ => ⟨η, ρ, S, rp, er, by
    refine FinR.mono (FinR.bind (rel := relL (gx X ct)) h) fun v H1 ⟨η1, w, S1, f1, rp1, r1, h1⟩ => ?_
    unfold zipK at h1
    split at h1
    · rename_i u t
      split at h1
      · rename_i x y ex ey
        obtain ⟨v1, v2, rfl, r2, r3⟩ := repWs2 r1
        obtain ⟨k1, a, vs, rfl, q1, s1⟩ := wkS_ok ex rp1 r2
        obtain ⟨k2, b, us, rfl, q2, s2⟩ := wkS_ok ey rp1 r3
        exact ⟨k1, k2, a, b, vs, us, rfl, q1, q2, h1 η1 H1 _ (Fu.refl _ _) rp1 (walk_z s1 s2)⟩
      · exact h1.elim
    · exact h1.elim⟩
theorem w_enum {e : Expr} {fa : FA} {p pos tpos : Pos} {elts : List Expr} {kk : Nat} (hg : Gl X "enumerate") (hm : X.mg "enumerate" = none) (ha : PA X [e] (tA (gx X ct) E fa)) (hs : starEach [e] X.env = [(false, eval e X.env)] := by rfl) :
    PI X (.Tuple elts kk tpos) (.Call (.Name "enumerate" p) [e] [] pos) (tI (gx X ct) E (fRng enumK fa)) := PIw (pi_enumB hg hm ha hs) fun σ H R ⟨η, ρ, S, rp, er, h⟩ => ⟨η, ρ, S, rp, er, by
    refine FinR.mono (FinR.bind (rel := relL (gx X ct)) h) fun v H1 ⟨η1, w, S1, f1, rp1, r1, h1⟩ => ?_
    unfold enumK at h1
    split at h1
    · rename_i u
      split at h1
      · rename_i x ex
        obtain ⟨v1, rfl, r2⟩ := repWs1 r1
        obtain ⟨k, a, vs, rfl, q1, s1⟩ := wkS_ok ex rp1 r2
        exact ⟨k, a, vs, rfl, q1, h1 η1 H1 _ (Fu.refl _ _) rp1 (walk_e s1)⟩
      · exact h1.elim
    · exact h1.elim⟩
end
end VI
set_option Elab.async false
set_option linter.all false
set_option maxRecDepth 100000
namespace VI
open PySem PySem.Spec PyProof.Rows L2
open Classical

/-! for -/
/-- the turns of a loop -/
noncomputable def forL (ok : Store → Prop) (g : FG) (b : FS) : List W → Rho → Store → RF
  | [], ρ, S => if ok S then .next ρ S else .bad
  | w :: ws, ρ, S => if ok S then (match g w ρ with
    | none => .bad
    | some ρ1 => match b ρ1 S with
      | .next ρ2 S2 => forL ok g b ws ρ2 S2
      | .cnt ρ2 S2 => forL ok g b ws ρ2 S2
      | .brk ρ2 S2 => .next ρ2 S2
      | r => r) else .bad
noncomputable def fFor (it : FK) (g : FG) (b : FS) : FS := fun ρ S => toS ρ (it ρ S) fun x S1 => forL x.ok g b x.xs ρ S1
section
variable {X : Cx} {ct : Nat → Option Addr} {E : EX}
theorem for_ok {ok : Store → Prop} {g : FG} {b : FS} {ws : List W} {ρ : Rho} {S : Store} {η : List Addr} {H : Hp} {D : Ends} (h : FinS (gx X ct) E η H (forL ok g b ws ρ S) D) : ok S := by
  by_cases q : ok S
  · exact q
  · cases ws <;> (rw [forL, if_neg q] at h; exact h.elim)
theorem s_for {tg iter : Expr} {body : List Stmt} {it : FK} {g : FG} {b : FS} {pos : Pos} (hp : PassesOwn (model X.prog X.w) X.A X.env X.xe) (hc : X.calm = true) (hi : PI X tg iter (tI (gx X ct) E it)) (hg : PG X tg (tG (gx X ct) g)) (hb : PSs X body (tS (gx X ct) E b))
    (hs : ∀ x, foldedSetIterable iter X.env x = pure x := by intro _; rfl) : PS X (.For tg iter body [] pos) (tS (gx X ct) E (fFor it g b)) := PSw (ps_for hp hc hi hg hb hs) fun D σ H ⟨η, ρ, S, rp, er, h⟩ =>
  ⟨η, ρ, S, rp, er, FinR.mono (FinS.bind er h) fun J H1 ⟨η1, x, S1, f1, rp1, wk, h1⟩ => by
    refine ⟨fun i m σ H => m = x.xs.length - i ∧ i ≤ x.xs.length ∧ ∃ η' ρ' S', Fu η1 H1 η' H ∧ Rp X.K η' H S' ∧ ERep X.K η' H ρ' σ ∧ FinS (gx X ct) E η' H (forL x.ok g b (x.xs.drop i) ρ' S') D,
      ⟨x.xs.length, rfl, Nat.zero_le _, η1, ρ, S1, Fu.refl _ _, rp1, er.fu f1, h1⟩, ?_⟩
    rintro i m σ H ⟨rfl, hi, η', ρ', S', f', rp', er', h'⟩
    have ok := for_ok h'
    by_cases hlt : i < x.xs.length
    · have ew : x.xs[i]? = some x.xs[i] := List.getElem?_eq_getElem hlt
      rw [List.drop_eq_getElem_cons hlt, forL, if_pos ok] at h'
      obtain ⟨go, yl⟩ := wk.go η' H S' i _ f' rp' ok ew
      refine .inr ⟨go, fun σ H => ∃ η' ρ' S', Fu η1 H1 η' H ∧ Rp X.K η' H S' ∧ ERep X.K η' H ρ' σ ∧ FinS (gx X ct) E η' H (forL x.ok g b (x.xs.drop (i + 1)) ρ' S') D, fun σ' H' q => ⟨_, by omega, rfl, hlt, q⟩, fun y H' yy => ?_⟩
      obtain ⟨f2, rp2, r2⟩ := yl y H' yy
      cases eg : g x.xs[i] ρ' with
      | none => rw [eg] at h'; exact h'.elim
      | some ρ1 =>
        rw [eg] at h'
        dsimp only at h'
        refine ⟨η', ρ', _, ρ1, r2, er'.fu f2, eg, fun σ2 er2 => ⟨η', ρ1, S', rp2, er2, ?_⟩⟩
        have h2 := FinS.fu f2 h'
        have f3 := f'.trans f2
        cases eb : b ρ1 S' with
        | next ρ2 S2 => rw [eb] at h2; exact fun η3 H3 σ3 f4 rp3 er3 => ⟨η3, ρ2, S2, f3.trans f4, rp3, er3, FinS.fu f4 h2⟩
        | cnt ρ2 S2 => rw [eb] at h2; exact fun η3 H3 σ3 f4 rp3 er3 => ⟨η3, ρ2, S2, f3.trans f4, rp3, er3, FinS.fu f4 h2⟩
        | brk ρ2 S2 => rw [eb] at h2; exact h2
        | ret w S2 => rw [eb] at h2; exact h2
        | exc c fs ρ2 S2 => rw [eb] at h2; exact h2
        | bad => rw [eb] at h2; exact h2
    · have ei : i = x.xs.length := by omega
      subst ei
      rw [List.drop_eq_nil_of_le (Nat.le_refl _), forL, if_pos ok] at h'
      exact .inl ⟨wk.stop η' H S' f' rp' ok, h' η' H σ (Fu.refl _ _) rp' er'⟩⟩
end

/-! comprehensions -/
def wipeR (ρ : Rho) : List Nat → Rho
  | [] => ρ
  | v :: vs => (wipeR ρ vs).set v none
theorem ERep.drop1 {K : PySem.W.Frag} {η : List Addr} {H : Hp} {ρ : Rho} {σ : L2.St} (e : ERep K η H ρ σ) (i : Nat) : ERep K η H (ρ.set i none) (σ.set i none) := by
  refine ⟨by rw [List.length_set, List.length_set]; exact e.1, fun j w h => ?_⟩
  by_cases hj : j = i
  · subst hj
    rw [List.getElem?_set] at h
    simp at h
  · rw [List.getElem?_set_ne (Ne.symm hj)] at h
    rw [List.getElem?_set_ne (Ne.symm hj)]
    exact e.2 j w h
theorem ERep.wipe {K : PySem.W.Frag} {η : List Addr} {H : Hp} {ρ : Rho} {σ : L2.St} (e : ERep K η H ρ σ) : ∀ vs : List Nat, ERep K η H (wipeR ρ vs) (L2.wipe σ vs)
  | [] => e
  | v :: vs => (ERep.wipe e vs).drop1 v
theorem wipe_at (σ : L2.St) (j : Nat) : ∀ vs : List Nat, (L2.wipe σ vs)[j]? = if j ∈ vs ∧ j < σ.length then some none else σ[j]?
  | [] => by simp [L2.wipe]
  | v :: vs => by
    rw [L2.wipe, List.getElem?_set, wipe_at σ j vs, wipe_length]
    by_cases e : v = j
    · subst e
      by_cases l : v < σ.length
      · simp [l]
      · simp [l, List.getElem?_eq_none (Nat.le_of_not_lt l)]
    · have : j ≠ v := fun z => e z.symm
      simp [e, this]
theorem wipe_set {σ : L2.St} {i : Nat} {x : Option V} {vs : List Nat} (h : i ∈ vs) : L2.wipe (σ.set i x) vs = L2.wipe σ vs := by
  refine List.ext_getElem? fun j => ?_
  rw [wipe_at, wipe_at, List.length_set]
  by_cases e : j ∈ vs ∧ j < σ.length
  · rw [if_pos e, if_pos e]
  · rw [if_neg e, if_neg e]
    by_cases z : i = j
    · subst z
      have : ¬ i < σ.length := fun l => e ⟨h, l⟩
      rw [List.getElem?_eq_none (by rw [List.length_set]; omega), List.getElem?_eq_none (by omega)]
    · rw [List.getElem?_set_ne z]
/-- targets of a block's own names -/
def tGb (G : Gc) (vs : List Nat) (g : FG) : TG := fun v σ H Q => ∃ η ρ w ρ', RepW G.K η H w v ∧ ERep G.K η H ρ σ ∧ g w ρ = some ρ' ∧ ∀ σ', ERep G.K η H ρ' σ' → L2.wipe σ' vs = L2.wipe σ vs → Q σ' H
def tGbs (G : Gc) (vs : List Nat) (g : FGs) : TGs := fun us σ H Q => ∃ η ρ ws ρ', RepWs G.K η H ws us ∧ ERep G.K η H ρ σ ∧ g ws ρ = some ρ' ∧ ∀ σ', ERep G.K η H ρ' σ' → L2.wipe σ' vs = L2.wipe σ vs → Q σ' H
section
variable {X : Cx} {G : Gc} {vs : List Nat}
theorem gb_name (i : Nat) {x : Str} {pos : Pos} (hN : X.N.Nodup) (hG : G.K = X.K) (hm : i ∈ vs) (hi : X.N[i]? = some x := by rfl) (hx : Loc X.env.scope x := by first | exact Or.inl rfl | exact Or.inr rfl) (hf : X.fn x = true ∨ X.env.scope.names.lookup x = some .local := by first | exact .inl rfl | exact .inr rfl) :
    PG X (.Name x pos) (tGb G vs (gtName i)) := PGw (pg_name hN hi hx hf) fun v σ H Q ⟨η, ρ, w, ρ', r, er, e, h⟩ => by
  cases e
  exact h _ (er.set r) (wipe_set hm)
theorem gbs_nil : PGs X [] (tGbs G vs gtNil) := PGsw pgs_nil fun v σ H Q ⟨η, ρ, w, ρ', r, er, e, h⟩ => by
  unfold gtNil at e
  split at e
  · cases e
    cases r
    exact ⟨rfl, h _ er rfl⟩
  · cases e
theorem gbs_cons {e : Expr} {es : List Expr} {g : FG} {gs : FGs} (h1 : PG X e (tGb G vs g)) (h2 : PGs X es (tGbs G vs gs)) (hs : (assignEach (e :: es) X.env).map (·.2) = assign e X.env :: (assignEach es X.env).map (·.2) := by rfl) :
    PGs X (e :: es) (tGbs G vs (gtCons g gs)) := PGsw (pgs_cons h1 h2 hs) fun v σ H Q ⟨η, ρ, w, ρ', r, er, e, h⟩ => by
  unfold gtCons at e
  split at e
  · rename_i w0 ws
    cases r with
    | cons r1 r2 =>
      split at e
      · rename_i ρ1 e1
        exact ⟨_, _, rfl, η, ρ, w0, ρ1, r1, er, e1, fun σ1 er1 z1 => ⟨η, ρ1, ws, ρ', r2, er1, e, fun σ2 er2 z2 => h σ2 er2 (z2.trans z1)⟩⟩
      · cases e
  · cases e
theorem gb_tup {es : List Expr} {k n : Nat} {pos : Pos} {gs : FGs} (hc : X.calm = true) (hG : G.K = X.K) (h : PGs X es (tGbs G vs gs)) (hn : (assignEach es X.env).length = n := by rfl) (hst : (assignEach es X.env).findIdx? (·.1) = none := by rfl) :
    PG X (.Tuple es k pos) (tGb G vs (gtTup n gs)) := PGw (pg_tup hc h hn hst) fun v σ H Q ⟨η, ρ, w, ρ', r, er, e, h⟩ => by
  unfold gtTup at e
  split at e
  · rename_i ws e1
    obtain ⟨a, us, rfl, h1, h2⟩ := asTW_ok e1 r
    split at e
    · rename_i hl
      exact ⟨a, us, rfl, hG ▸ h1, by rw [← h2.length]; exact hl, η, ρ, ws, ρ', h2, er, e, h⟩
    · cases e
  · cases e
end
def noX {α : Type} : R α → R α
  | .exc _ _ _ => .bad
  | r => r
theorem FinR.noX {α β : Type} {G : Gc} {rel : α → List Addr → Hp → β → Prop} {Z Z' : XK} {η : List Addr} {H : Hp} {r : R α} {Q : β → Hp → Prop} (h : FinR G rel Z η H (VI.noX r) Q) : FinR G rel Z' η H r Q := by
  cases r with
  | ok w S => exact h
  | exc c fs S => exact h.elim
  | bad => exact h
/-- a member joins the new list -/
def lcPut (l : Nat) (w : W) (S : Store) : Option Store := match w, S[l]? with
  | .d d, some (.lst ds) => if ds.length < lim then some (S.set l (.lst (ds ++ [d]))) else none
  | _, _ => none
noncomputable def lcL (ok : Store → Prop) (g : FG) (t : FT) (e : FE) (ρ : Rho) (l : Nat) : List W → Store → R W
  | [], S => if ok S then .ok (.loc l) S else .bad
  | w :: ws, S => if ok S then (match g w ρ with
    | none => .bad
    | some ρ1 => (noX (t ρ1 S)).bind fun k S1 => if k = true then (noX (frz S1.length (e ρ1 S1))).bind fun u S2 => (match lcPut l u S2 with
        | some S3 => lcL ok g t e ρ l ws S3
        | none => .bad) else lcL ok g t e ρ l ws S1) else .bad
noncomputable def fLcL (it : FK) (g : FG) (t : FT) (e : FE) (vs : List Nat) : FE := fun ρ S => (it ρ S).bind fun x S1 => lcL x.ok g t e (wipeR ρ vs) S1.length x.xs (S1 ++ [.lst []])
noncomputable def fLc (it : FK) (g : FG) (t : FT) (e : FE) (vs : List Nat) : FE := fun ρ S => frz S.length (fLcL it g t e vs ρ S)
def fYes : FT := fun _ S => .ok true S
section
variable {X : Cx} {ct : Nat → Option Addr} {E : EX}
theorem ts_nil {G : Gc} : PTs X [] (tT G E fYes) := ⟨fun pins s σ H Q I ⟨η, ρ, S, rp, er, h⟩ => pts_nil.run pins s σ H Q I (h η H true (Fu.refl _ _) rp rfl)⟩
theorem ts_one {G : Gc} {c : Expr} {t : FT} (h : PT X c (tT G E t)) : PTs X [c] (tT G E t) := pts_one h
theorem lc_ok {ok : Store → Prop} {g : FG} {t : FT} {e : FE} {ρ : Rho} {l : Nat} {ws : List W} {S : Store} {Z : XK} {η : List Addr} {H : Hp} {Q : VK} (h : FinR (gx X ct) (relW (gx X ct)) Z η H (lcL ok g t e ρ l ws S) Q) : ok S := by
  by_cases q : ok S
  · exact q
  · cases ws <;> (rw [lcL, if_neg q] at h; exact h.elim)
theorem lcPut_ok {l : Nat} {w : W} {S S' : Store} {η : List Addr} {H : Hp} {D : Addr} {y : V} {P : Hp → Prop} (e : lcPut l w S = some S') (rp : Rp X.K η H S) (hD : η[l]? = some D) (r : RepW X.K η H w y) (h : ∀ H', Fu η H η H' → Rp X.K η H' S' → P H') :
    ∃ acc, H D = some (.lst acc) ∧ acc.length < sizeLine ∧ P (upd H D (.lst (acc ++ [y]))) := by
  unfold lcPut at e
  split at e
  · rename_i d ds q
    split at e
    · rename_i hl
      cases e
      cases r with
      | d r =>
        obtain ⟨vs, h1, h2⟩ := rp.all _ _ _ hD q
        have f : Fu η H η (upd H D (.lst (vs ++ [y]))) := fu_write (List.mem_of_getElem? hD) h1 trivial
        exact ⟨vs, h1, by rw [← h2.length, sizeLine_eq]; exact hl, h _ f (rp.write hD ⟨_, upd_same, RepDs.fu f _ _ (h2.append (.cons r .nil))⟩)⟩
    · cases e
  · cases e
theorem lc_key {it : FK} {g : FG} {t : FT} {e : FE} {vs : List Nat} : ∀ σ H Q, tF (gx X ct) E (fLcL it g t e vs) σ H Q → tLc (tI (gx X ct) E it) (tGb (gx X ct) vs g) (tT (gx X ct) (fun _ => E0) t) (tF (gx X ct) (fun _ => E0) e) vs σ H Q := fun σ H Q ⟨η, ρ, S, rp, er, h⟩ =>
  ⟨η, ρ, S, rp, er, FinR.mono (FinR.bind (rel := relJ (gx X ct)) h) fun J H1 ⟨η1, x, S1, f1, rp1, wk, h1⟩ D hD => by
    have rp2 : Rp X.K (η1 ++ [D]) (upd H1 D (.lst [])) (S1 ++ [.lst []]) := rp1.live hD ⟨[], upd_same, .nil⟩
    have f2 : Fu η1 H1 (η1 ++ [D]) (upd H1 D (.lst [])) := fu_live hD
    have lD : S1.length = η1.length := rp1.len.symm
    refine ⟨fun i m H => m = x.xs.length - i ∧ i ≤ x.xs.length ∧ ∃ η' S', Fu (η1 ++ [D]) (upd H1 D (.lst [])) η' H ∧ Rp X.K η' H S' ∧ FinR (gx X ct) (relW (gx X ct)) (E σ) η' H (lcL x.ok g t e (wipeR ρ vs) S1.length (x.xs.drop i) S') Q,
      ⟨x.xs.length, rfl, Nat.zero_le _, η1 ++ [D], _, Fu.refl _ _, rp2, FinR.fu f2 h1⟩, ?_⟩
    rintro i m H ⟨rfl, hi, η', S', f', rp', h'⟩
    have ok := lc_ok h'
    have gD : ∀ {η2 : List Addr} {H2 : Hp}, Fu (η1 ++ [D]) (upd H1 D (.lst [])) η2 H2 → η2[S1.length]? = some D := fun f => f.get (by rw [lD, List.getElem?_append_right (Nat.le_refl _)]; simp)
    by_cases hlt : i < x.xs.length
    · have ew : x.xs[i]? = some x.xs[i] := List.getElem?_eq_getElem hlt
      rw [List.drop_eq_getElem_cons hlt, lcL, if_pos ok] at h'
      obtain ⟨go, yl⟩ := wk.go η' H S' i _ (f2.trans f') rp' ok ew
      refine .inr ⟨go, fun H => ∃ η' S', Fu (η1 ++ [D]) (upd H1 D (.lst [])) η' H ∧ Rp X.K η' H S' ∧ FinR (gx X ct) (relW (gx X ct)) (E σ) η' H (lcL x.ok g t e (wipeR ρ vs) S1.length (x.xs.drop (i + 1)) S') Q, fun H' q => ⟨_, by omega, rfl, hlt, q⟩, fun y H' yy => ?_⟩
      obtain ⟨f3, rp3, r3⟩ := yl y H' yy
      cases eg : g x.xs[i] (wipeR ρ vs) with
      | none => rw [eg] at h'; exact h'.elim
      | some ρ1 =>
        rw [eg] at h'
        dsimp only at h'
        have h2 := FinR.fu f3 h'
        have f4 := f'.trans f3
        refine ⟨η', wipeR ρ vs, _, ρ1, r3, (((er.fu f1).fu f2).fu f4).wipe vs, eg, fun σ2 er2 z2 => ⟨?_, η', ρ1, S', rp3, er2, ?_⟩⟩
        · rw [z2]
          refine List.ext_getElem? fun j => ?_
          rw [wipe_at, wipe_at, wipe_length]
          by_cases q : j ∈ vs ∧ j < σ.length
          · rw [if_pos q, if_pos q]
          · rw [if_neg q, if_neg q]
        refine FinR.noX (FinR.mono (FinR.bind (rel := relB) h2) fun k H5 ⟨η5, k', S5, f5, rp5, rk, h5⟩ => ?_)
        obtain rfl : k = k' := rk
        have f45 := f4.trans f5
        by_cases hk : k = true
        · rw [if_pos hk] at h5 ⊢
          refine ⟨η5, ρ1, S5, rp5, er2.fu f5, FinR.frz rp5 (FinR.noX (FinR.mono (FinR.bind (rel := relW (gx X ct)) h5) fun y H6 ⟨η6, u, S6, f6, rp6, r6, h6⟩ => ?_))⟩
          split at h6
          · rename_i S7 e7
            exact lcPut_ok (P := fun H => ∃ η' S', Fu (η1 ++ [D]) (upd H1 D (.lst [])) η' H ∧ Rp X.K η' H S' ∧ FinR (gx X ct) (relW (gx X ct)) (E σ) η' H (lcL x.ok g t e (wipeR ρ vs) S1.length (x.xs.drop (i + 1)) S') Q) e7 rp6 (gD (f45.trans f6)) r6 fun H7 f7 rp7 => ⟨η6, S7, (f45.trans f6).trans f7, rp7, FinR.fu f7 h6⟩
          · exact h6.elim
        · rw [if_neg hk] at h5 ⊢
          exact ⟨η5, S5, f45, rp5, h5⟩
    · have ei : i = x.xs.length := by omega
      subst ei
      rw [List.drop_eq_nil_of_le (Nat.le_refl _), lcL, if_pos ok] at h'
      exact .inl ⟨wk.stop η' H S' (f2.trans f') rp' ok, h' η' H _ (Fu.refl _ _) rp' (.loc (gD f'))⟩⟩
variable {elt tg iter : Expr} {ifs : List Expr} {scope : Scope} {own : List (Str × Nat)} {pos spos : Pos} {it : FK} {g : FG} {t : FT} {e : FE}
theorem i_lcL (hc : X.calm = true) (hN : X.N.Nodup) (hi : PI X tg iter (tI (gx X ct) E it)) (ok : BlkOk X.N X.env.scope scope own)
    (hg : ∀ (s : Shared) (H : Hp) (C : Addr) (cl : List (Str × Addr)) (fp : List Addr), PG (X.blk s H scope (compEnvC scope cl C X.env) fp) tg (tGb (gx X ct) (own.map (·.2)) g))
    (ht : ∀ (s : Shared) (H : Hp) (C : Addr) (cl : List (Str × Addr)) (fp : List Addr), PTs (X.blk s H scope (compEnvC scope cl C X.env) fp) ifs (tT (gx X ct) (fun _ => E0) t))
    (he : ∀ (s : Shared) (H : Hp) (C : Addr) (cl : List (Str × Addr)) (fp : List Addr), PE (X.blk s H scope (compEnvC scope cl C X.env) fp) elt (tF (gx X ct) (fun _ => E0) e)) (hs : ∀ x, foldedSetIterable iter X.env x = pure x := by intro _; rfl) :
    PE X (.ListComp elt [⟨tg, iter, ifs, 0⟩] scope pos) (tF (gx X ct) E (fLcL it g t e (own.map (·.2)))) := PEw (pe_lc hc hN hi ok hg ht he hs) lc_key
theorem i_lc (hc : X.calm = true) (hN : X.N.Nodup) (hi : PI X tg iter (tI (gx X ct) E it)) (ok : BlkOk X.N X.env.scope scope own)
    (hg : ∀ (s : Shared) (H : Hp) (C : Addr) (cl : List (Str × Addr)) (fp : List Addr), PG (X.blk s H scope (compEnvC scope cl C X.env) fp) tg (tGb (gx X ct) (own.map (·.2)) g))
    (ht : ∀ (s : Shared) (H : Hp) (C : Addr) (cl : List (Str × Addr)) (fp : List Addr), PTs (X.blk s H scope (compEnvC scope cl C X.env) fp) ifs (tT (gx X ct) (fun _ => E0) t))
    (he : ∀ (s : Shared) (H : Hp) (C : Addr) (cl : List (Str × Addr)) (fp : List Addr), PE (X.blk s H scope (compEnvC scope cl C X.env) fp) elt (tF (gx X ct) (fun _ => E0) e)) (hs : ∀ x, foldedSetIterable iter X.env x = pure x := by intro _; rfl) :
    PE X (.ListComp elt [⟨tg, iter, ifs, 0⟩] scope pos) (tF (gx X ct) E (fLc it g t e (own.map (·.2)))) := PEw (i_lcL hc hN hi ok hg ht he hs) fun σ H Q ⟨η, ρ, S, rp, er, h⟩ => ⟨η, ρ, S, rp, er, FinR.frz rp h⟩
theorem s_setLcL (i : Nat) {y : Str} {py : Pos} (hc : X.calm = true) (hN : X.N.Nodup) (hsw : swapsWith (.ListComp elt [⟨tg, iter, ifs, 0⟩] scope pos) (some (.Name y py)) spos.line X.env = pure true) (hi : PI X tg iter (tI (gx X ct) E it)) (ok : BlkOk X.N X.env.scope scope own)
    (hg : ∀ (s : Shared) (H : Hp) (C : Addr) (cl : List (Str × Addr)) (fp : List Addr), PG (X.blk s H scope (compEnvC scope cl C X.env) fp) tg (tGb (gx X ct) (own.map (·.2)) g))
    (ht : ∀ (s : Shared) (H : Hp) (C : Addr) (cl : List (Str × Addr)) (fp : List Addr), PTs (X.blk s H scope (compEnvC scope cl C X.env) fp) ifs (tT (gx X ct) (fun _ => E0) t))
    (he : ∀ (s : Shared) (H : Hp) (C : Addr) (cl : List (Str × Addr)) (fp : List Addr), PE (X.blk s H scope (compEnvC scope cl C X.env) fp) elt (tF (gx X ct) (fun _ => E0) e)) (hy : X.N[i]? = some y := by rfl) (hyl : X.env.scope.names.lookup y = some .local := by rfl) (hs : ∀ x, foldedSetIterable iter X.env x = pure x := by intro _; rfl) :
    PS X (.Assign [.Name y py] (.ListComp elt [⟨tg, iter, ifs, 0⟩] scope pos) spos) (tS (gx X ct) E (fAsg (fLcL it g t e (own.map (·.2))) (gtName i))) := PSw (ps_setLc hc hN hy hyl hsw hi ok hg ht he hs) fun D σ H ⟨η, ρ, S, rp, er, h⟩ =>
  lc_key _ _ _ ⟨η, ρ, S, rp, er, FinR.mono (FinS.bind er h) fun v H1 ⟨η1, w, S1, f1, rp1, r1, h1⟩ => h1 η1 H1 _ (Fu.refl _ _) rp1 ((er.fu f1).set r1)⟩
theorem s_setLc (i : Nat) {y : Str} {py : Pos} (hc : X.calm = true) (hN : X.N.Nodup) (hsw : swapsWith (.ListComp elt [⟨tg, iter, ifs, 0⟩] scope pos) (some (.Name y py)) spos.line X.env = pure true) (hi : PI X tg iter (tI (gx X ct) E it)) (ok : BlkOk X.N X.env.scope scope own)
    (hg : ∀ (s : Shared) (H : Hp) (C : Addr) (cl : List (Str × Addr)) (fp : List Addr), PG (X.blk s H scope (compEnvC scope cl C X.env) fp) tg (tGb (gx X ct) (own.map (·.2)) g))
    (ht : ∀ (s : Shared) (H : Hp) (C : Addr) (cl : List (Str × Addr)) (fp : List Addr), PTs (X.blk s H scope (compEnvC scope cl C X.env) fp) ifs (tT (gx X ct) (fun _ => E0) t))
    (he : ∀ (s : Shared) (H : Hp) (C : Addr) (cl : List (Str × Addr)) (fp : List Addr), PE (X.blk s H scope (compEnvC scope cl C X.env) fp) elt (tF (gx X ct) (fun _ => E0) e)) (hy : X.N[i]? = some y := by rfl) (hyl : X.env.scope.names.lookup y = some .local := by rfl) (hs : ∀ x, foldedSetIterable iter X.env x = pure x := by intro _; rfl) :
    PS X (.Assign [.Name y py] (.ListComp elt [⟨tg, iter, ifs, 0⟩] scope pos) spos) (tS (gx X ct) E (fAsg (fLc it g t e (own.map (·.2))) (gtName i))) := PSw (ps_setLc hc hN hy hyl hsw hi ok hg ht he hs) fun D σ H ⟨η, ρ, S, rp, er, h⟩ =>
  lc_key _ _ _ ⟨η, ρ, S, rp, er, FinR.frz rp (FinR.mono (FinS.bind er h) fun v H1 ⟨η1, w, S1, f1, rp1, r1, h1⟩ => h1 η1 H1 _ (Fu.refl _ _) rp1 ((er.fu f1).set r1))⟩
end
end VI
set_option Elab.async false
set_option linter.all false
set_option maxRecDepth 100000
namespace VI
open PySem PySem.Spec PyProof.Rows L2

/-! methods of a live list -/
def liveB (w : W) (S : Store) : Bool := match w with
  | .loc l => match S[l]? with
    | some (.lst _) => true
    | _ => false
  | _ => false
theorem liveB_ok {K : PySem.W.Frag} {η : List Addr} {H : Hp} {S : Store} {w : W} {v : V} (e : liveB w S = true) (rp : Rp K η H S) (r : RepW K η H w v) : tyV K "list" v H := by
  unfold liveB at e
  split at e
  · split at e
    · rename_i l xs q
      cases r with
      | loc r =>
        obtain ⟨vs, h1, h2⟩ := rp.all _ _ _ r q
        exact .inl ⟨rfl, vs, SqL.of h1⟩
    · cases e
  · cases e
abbrev GM := W → List W → Store → O
def SimM (X : Cx) (ct : Nat → Option Addr) (g : GM) : V → List V → Hp → VK → Prop := fun x xs H Q => ∃ η S wx ws, Rp X.K η H S ∧ RepW X.K η H wx x ∧ RepWs X.K η H ws xs ∧ FinO (gx X ct) η H (g wx ws S) Q
def fMeth (g : GM) (o : FE) (a : FA) : FE := fun ρ S => (o ρ S).bind fun ov S1 => if liveB ov S1 = true then (a ρ S1).bind fun ws S2 => lift (g ov ws S2) else .bad
def fMeth0 (g : GM) (o : FE) : FE := fun ρ S => (o ρ S).bind fun ov S1 => if liveB ov S1 = true then lift (g ov [] S1) else .bad
theorem MtR.fit {X : Cx} {id : String} {r r' : V → List V → Hp → VK → Prop} (h : MtR X id r) (i : ∀ x xs H Q, r' x xs H Q → r x xs H Q) : MtR X id r' := fun pins s σ H x xs v us Q I rx ry q => h pins s σ H x xs v us Q I rx ry (i _ _ _ _ q)
section
variable {X : Cx} {ct : Nat → Option Addr} {E : EX} {o e : Expr} {es : List Expr} {name : Str} {apos cpos : Pos} {id : String} {g : GM} {fo : FE} {fa : FA}
theorem i_meth (slot : Slot "list" name id) (hty : typeOf (.builtin id) = pure (.type "method_descriptor")) (hm : MtR X id (SimM X ct g)) (ho : PE X o (tF (gx X ct) E fo)) (ha : PA X (e :: es) (tA (gx X ct) E fa))
    (hbase : attributeBase o name X.env (eval o X.env) = eval o X.env := by rfl)
    (hfew : ((backTo cpos (starEach (e :: es) X.env)).all (fun x => !x.1) && (backToKw cpos (keywordEach [] X.env)).all (fun x => x.1.isSome)
      && decide ((e :: es).length + ([] : List Keyword).length + (if ([] : List Keyword).isEmpty then 0 else 1) < 30)) = true := by rfl)
    (hline : (apos.endLine == cpos.line) = true := by rfl) (hs : starEach (e :: es) X.env = (false, eval e X.env) :: starEach es X.env := by rfl) (hplain : (backTo cpos (starEach es X.env)).any (·.1) = false := by rfl) :
    PE X (.Call (.Attribute o name apos) (e :: es) [] cpos) (tF (gx X ct) E (fMeth g fo fa)) := PEw (pe_bm PySem.F.plainAttrs_list slot hty hm ho ha hbase hfew hline hs hplain) fun σ H Q ⟨η, ρ, S, rp, er, h⟩ =>
  ⟨η, ρ, S, rp, er, FinR.mono (FinR.bind (rel := relW (gx X ct)) h) fun v H1 ⟨η1, w, S1, f1, rp1, r1, h1⟩ => by
    by_cases q : liveB w S1 = true
    · rw [if_pos q] at h1
      exact ⟨liveB_ok q rp1 r1, η1, ρ, S1, rp1, er.fu f1, FinR.mono (FinR.bind (rel := relL (gx X ct)) h1) fun vs H2 ⟨η2, ws, S2, f2, rp2, r2, h2⟩ => ⟨η2, S2, w, ws, rp2, RepW.fu f2 _ _ r1, r2, lift_ok h2⟩⟩
    · rw [if_neg q] at h1
      exact h1.elim⟩
theorem i_meth0 (slot : Slot "list" name id) (hty : typeOf (.builtin id) = pure (.type "method_descriptor")) (hm : MtR X id (SimM X ct g)) (ho : PE X o (tF (gx X ct) E fo))
    (hbase : attributeBase o name X.env (eval o X.env) = eval o X.env := by rfl) (hline : (apos.endLine == cpos.line) = true := by rfl) :
    PE X (.Call (.Attribute o name apos) [] [] cpos) (tF (gx X ct) E (fMeth0 g fo)) := PEw (pe_bm0 PySem.F.plainAttrs_list slot hty hm ho hbase hline) fun σ H Q ⟨η, ρ, S, rp, er, h⟩ =>
  ⟨η, ρ, S, rp, er, FinR.mono (FinR.bind (rel := relW (gx X ct)) h) fun v H1 ⟨η1, w, S1, f1, rp1, r1, h1⟩ => by
    by_cases q : liveB w S1 = true
    · rw [if_pos q] at h1
      exact ⟨liveB_ok q rp1 r1, η1, S1, w, [], rp1, r1, .nil, lift_ok h1⟩
    · rw [if_neg q] at h1
      exact h1.elim⟩
/-! the methods -/
def mAppend : GM := fun o ws S => match o, ws with
  | .loc l, [.d x] => match S[l]? with
    | some (.lst xs) => if xs.length < lim then some (.d .none, S.set l (.lst (xs ++ [x]))) else none
    | _ => none
  | _, _ => none
def mExtend : GM := fun o ws S => match o, ws with
  | .loc l, [u] => match S[l]?, asL u S with
    | some (.lst xs), some ys => if xs.length + ys.length ≤ lim then some (.d .none, S.set l (.lst (xs ++ ys))) else none
    | _, _ => none
  | _, _ => none
def mPop : GM := fun o ws S => match o, ws with
  | .loc l, [] => match S[l]? with
    | some (.lst xs) => match xs[xs.length - 1]? with
      | some x => some (.d x, S.set l (.lst xs.dropLast))
      | none => none
    | _ => none
  | _, _ => none
def mPopAt : GM := fun o ws S => match o, ws with
  | .loc l, [.d (.int i)] => match S[l]? with
    | some (.lst xs) => if -(2 ^ 63) ≤ i ∧ i < 2 ^ 63 then match seqIndex? i xs.length with
      | some k => match xs[k]? with
        | some x => some (.d x, S.set l (.lst (xs.eraseIdx k)))
        | none => none
      | none => none else none
    | _ => none
  | _, _ => none
def mInsert : GM := fun o ws S => match o, ws with
  | .loc l, [.d (.int i), .d x] => match S[l]? with
    | some (.lst xs) => if xs.length < lim ∧ 0 ≤ i ∧ i < 2 ^ 63 then some (.d .none, S.set l (.lst (xs.take i.toNat ++ [x] ++ xs.drop i.toNat))) else none
    | _ => none
  | _, _ => none
theorem live_at {K : PySem.W.Frag} {η : List Addr} {H : Hp} {S : Store} {l : Nat} {v : V} {xs : List PyData} (q : S[l]? = some (.lst xs)) (rp : Rp K η H S) (r : RepW K η H (.loc l) v) : ∃ a vs, v = .ref a ∧ η[l]? = some a ∧ H a = some (.lst vs) ∧ RepDs K η H xs vs := by
  cases r with
  | loc r =>
    obtain ⟨vs, h1, h2⟩ := rp.all _ _ _ r q
    exact ⟨_, vs, rfl, r, h1, h2⟩
theorem m_append : MtR X "list.append" (SimM X ct mAppend) := MtR.fit mt_append fun x xs H Q ⟨η, S, wx, ws, rp, rx, rr, h⟩ => by
  unfold mAppend at h
  split at h
  · rename_i l d
    split at h
    · rename_i ds q
      obtain ⟨a, vs, rfl, ha, h1, h2⟩ := live_at q rp rx
      obtain ⟨y, rfl, ry⟩ := repWs1 rr
      split at h
      · rename_i hl
        cases ry with
        | d ry => exact ⟨a, vs, y, rfl, rfl, h1, by rw [← h2.length, sizeLine_eq]; exact hl, write_list rp ha (h2.append (.cons ry .nil)) (.d .none) h⟩
      · exact h.elim
    · exact h.elim
  · exact h.elim
theorem m_extend : MtR X "list.extend" (SimM X ct mExtend) := MtR.fit mt_extend fun x xs H Q ⟨η, S, wx, ws, rp, rx, rr, h⟩ => by
  unfold mExtend at h
  split at h
  · rename_i l u
    split at h
    · rename_i ds es q e
      obtain ⟨a, vs, rfl, ha, h1, h2⟩ := live_at q rp rx
      obtain ⟨y, rfl, ry⟩ := repWs1 rr
      obtain ⟨b, us, rfl, h3, h4⟩ := asL_ok e rp ry
      split at h
      · rename_i hl
        exact ⟨a, b, vs, us, rfl, rfl, h1, h3, by rw [← h2.length, ← h4.length, sizeLine_eq]; exact hl, write_list rp ha (h2.append h4) (.d .none) h⟩
      · exact h.elim
    · exact h.elim
  · exact h.elim
theorem m_pop : MtR X "list.pop" (SimM X ct mPop) := MtR.fit mt_pop fun x xs H Q ⟨η, S, wx, ws, rp, rx, rr, h⟩ => by
  unfold mPop at h
  split at h
  · rename_i l
    split at h
    · rename_i ds q
      obtain ⟨a, vs, rfl, ha, h1, h2⟩ := live_at q rp rx
      cases rr
      split at h
      · rename_i d e
        obtain ⟨y, e1, ry⟩ := h2.get e
        rw [h2.length] at e1
        exact ⟨a, vs, y, rfl, rfl, h1, e1, write_list rp ha h2.dropLast (.d ry) h⟩
      · exact h.elim
    · exact h.elim
  · exact h.elim
theorem m_popAt : MtR X "list.pop" (SimM X ct mPopAt) := MtR.fit mt_popAt fun x xs H Q ⟨η, S, wx, ws, rp, rx, rr, h⟩ => by
  unfold mPopAt at h
  split at h
  · rename_i l i
    split at h
    · rename_i ds q
      obtain ⟨a, vs, rfl, ha, h1, h2⟩ := live_at q rp rx
      obtain ⟨y, rfl, ry⟩ := repWs1 rr
      obtain rfl := intW ry
      split at h
      · rename_i hi
        split at h
        · rename_i k ek
          split at h
          · rename_i d e
            obtain ⟨z, e1, rz⟩ := h2.get e
            exact ⟨a, vs, i, k, z, rfl, rfl, h1, hi.1, hi.2, by rw [← h2.length]; exact ek, e1, write_list rp ha (h2.eraseIdx k) (.d rz) h⟩
          · exact h.elim
        · exact h.elim
      · exact h.elim
    · exact h.elim
  · exact h.elim
theorem m_insert : MtR X "list.insert" (SimM X ct mInsert) := MtR.fit mt_insert fun x xs H Q ⟨η, S, wx, ws, rp, rx, rr, h⟩ => by
  unfold mInsert at h
  split at h
  · rename_i l i d
    split at h
    · rename_i ds q
      obtain ⟨a, vs, rfl, ha, h1, h2⟩ := live_at q rp rx
      obtain ⟨y, y2, rfl, ry, ry2⟩ := repWs2 rr
      obtain rfl := intW ry
      split at h
      · rename_i hi
        cases ry2 with
        | d ry2 => exact ⟨a, vs, i, y2, rfl, rfl, h1, by rw [← h2.length, sizeLine_eq]; exact hi.1, hi.2.1, hi.2.2, write_list rp ha (((h2.take _).append (.cons ry2 .nil)).append (h2.drop _)) (.d .none) h⟩
      · exact h.elim
    · exact h.elim
  · exact h.elim
theorem i_append {n : Nat} (ho : PE X o (tF (gx X ct) E fo)) (ha : PA X [e] (tA (gx X ct) E fa))
    (hbase : attributeBase o "append" X.env (eval o X.env) = eval o X.env := by rfl)
    (hfew : ((backTo cpos (starEach [e] X.env)).all (fun x => !x.1) && (backToKw cpos (keywordEach [] X.env)).all (fun x => x.1.isSome)
      && decide (([e] : List Expr).length + ([] : List Keyword).length + (if ([] : List Keyword).isEmpty then 0 else 1) < 30)) = true := by rfl)
    (hline : (apos.endLine == cpos.line) = true := by rfl) (hs : starEach [e] X.env = (false, eval e X.env) :: starEach [] X.env := by rfl) (hplain : (backTo cpos (starEach [] X.env)).any (·.1) = false := by rfl) :
    PE X (.Call (.Attribute o "append" apos) [e] [] cpos) (tF (gx X ct) E (fMeth mAppend fo fa)) := i_meth PySem.F.slot_list_append PySem.F.type_list_append m_append ho ha hbase hfew hline hs hplain
/-! all back to front -/
def gRev (w : W) (S : Store) : O := match asLW w S with
  | some ws => (datas ws).map fun ds => (.d (.list ds.reverse), S)
  | none => none
theorem i_rev {k : Nat} {p1 p2 p3 pos : Pos} (he : PE X e (tF (gx X ct) E fo)) : PE X (.Subscript e (.Slice none none (some (.UnaryOp .USub (.Constant (.int 1) k p1) p2)) p3) pos) (tF (gx X ct) E (f1 gRev fo)) :=
  PEw (pe_revL he) (get1 (r := fun x H1 Q => ∃ a xs, x = .ref a ∧ SqL X.K H1 a xs ∧ ∀ p, H1 p = none → Q (.ref p) (upd H1 p (.lst xs.reverse))) fun x H Q ⟨η, S, w, rp, r, h⟩ => by
    unfold gRev at h
    split at h
    · rename_i ws e
      obtain ⟨a, vs, rfl, h1, h2⟩ := asLW_ok e rp r
      cases q : datas ws with
      | none => rw [q] at h; exact h.elim
      | some ds =>
        rw [q] at h
        exact ⟨a, vs, rfl, h1, new_list rp (datas_ok q h2).reverse h⟩
    · exact h.elim)
end
end VI
set_option Elab.async false
set_option linter.all false
set_option maxRecDepth 100000
namespace VI
open PySem PySem.Spec PyProof.Rows L2

/-! a def by its body -/
/-- what a run of a body comes to -/
def toR : RF → R W
  | .next _ S => .ok (.d .none) S
  | .ret w S => .ok w S
  | _ => .bad
def startR (n : Nat) (ws : List W) : Rho := ws.map some ++ List.replicate (n - ws.length) none
def runB (n : Nat) (b : FS) (ws : List W) (S : Store) : R W := toR (b (startR n ws) S)
theorem start_rep {K : PySem.W.Frag} {η : List Addr} {H : Hp} {N : List Str} {ws : List W} {vs : List V} (r : RepWs K η H ws vs) : ERep K η H (startR N.length ws) (L2.start N vs) := by
  unfold startR L2.start
  refine ⟨by simp [r.length], fun i w h => ?_⟩
  by_cases hi : i < ws.length
  · rw [List.getElem?_append_left (by rw [List.length_map]; exact hi), List.getElem?_map] at h
    cases q : ws[i]? with
    | none => rw [q] at h; cases h
    | some u =>
      rw [q] at h
      have z : u = w := Option.some.inj (Option.some.inj h)
      subst z
      obtain ⟨v, e, rv⟩ := r.get q
      refine ⟨v, ?_, rv⟩
      rw [List.getElem?_append_left (by rw [List.length_map, ← r.length]; exact hi), List.getElem?_map, e]
      rfl
  · rw [List.getElem?_append_right (by rw [List.length_map]; omega), List.getElem?_replicate] at h
    split at h <;> cases h
abbrev NX : EX := fun _ => E0
section
variable {P : Program} {w : World} {K : PySem.W.Frag} {mg : Str → Option Value} {base : Heap} {ct : Nat → Option Addr}
/-- the context in which a body is read: none of what is raised leaves it -/
abbrev bodyX (P : Program) (w : World) (K : PySem.W.Frag) (mg : Str → Option Value) (base : Heap) (N : List Str) (qual : Str) (scope : Scope) (f : Addr) (cd : Value) (A : Around) (outer : List Env) (s : Shared) (H : Hp) (E : XK) : Cx :=
  (cxOf CX0 P w K mg base N qual scope f cd A outer s H E).nox
theorem fnG_of {k : Nat} {f : Addr} {name qual : Str} {pr : Arguments} {body : List Stmt} {sc : Scope} {dV kV doc pm cdv ctv oc : Value} {an od : Option Addr} {sl : Array (Option Value)} {N ps : List Str} {g : List W → Store → R W}
    (lk : K.lookup f = some ⟨oc, od, .func (PySem.W.fnOf name qual pr body sc dV kV doc pm an cdv ctv), sl⟩) (hcd : PySem.W.codeIn K cdv qual = true) (hS : FnScope N ps sc)
    (hb : ∀ (A : Around) (outer : List Env) (s : Shared) (H : Hp) (E : XK), Room k (A.deeper (envOfC qual sc s.heap.objs.size f cdv)) → A.guards = some [] → ∃ b : FS, (∀ ws S, ws.length = ps.length → g ws S = runB N.length b ws S) ∧
      PSs (bodyX P w K mg base N qual sc f cdv A outer s H E) body (tS ⟨K, ct⟩ NX b)) :
    FnG P w K mg base CX0 (k + 1) f (PySem.W.fnOf name qual pr body sc dV kV doc pm an cdv ctv) ps (spG ⟨K, ct⟩ ps.length g) where
  len := fun vs H Q E h => h.1
  run := by
    intro A outer s H args us vs Q E room gd env bnd rel ⟨hlen, η, S, ws, rp, rr, fin⟩
    have hin : K.In s.heap := env.mod.kin.keeps fun c o z => (env.bs c o z).1
    have nolim : s.heap.NoLimit := env.mod.nolimit.keeps fun c o z => (env.bs c o z).1
    have kinds : ∀ p ∈ ps.zip us, sc.names.lookup p.1 = some .local ∨ (sc.names.lookup p.1 = some .cell ∧ ((cellsFrom (s.heap.objs.size + 1) sc.names []).lookup p.1).isSome = true) := by
      rintro ⟨m, u⟩ hm
      rcases hS.par m (List.of_mem_zip hm).1 with z | z
      · exact Or.inl z
      · exact Or.inr ⟨z, PySem.W.cellsFrom_some _ _ _ (Or.inl z)⟩
    refine codeAny_call_function room.depth (hin _ _ lk) rfl hS.co hS.gen rfl (PySem.W.codeRec_of hin hcd) (bnd _ _ _ _ ?_)
    refine wpAny_newFunctionEnv_cells hS.kind kinds fun en hen t1 tx => ?_
    subst hen
    refine ⟨nolim.keeps tx.toInCall.keep, codeAny_func ?_⟩
    obtain ⟨b, eqb, hbody⟩ := hb A outer s H E (room.deeper _) gd
    have inv0 := inv_start (CX := CX0) (E := E) hS room.hd env hlen rel tx
    have wl : ws.length = ps.length := by rw [rr.length]; exact hlen
    rw [eqb ws S wl] at fin
    have pre : tS ⟨K, ct⟩ NX b { nx := fun _ H' => Q .non H', rt := Q } (L2.start N vs) H := by
      refine ⟨η, startR N.length ws, S, rp, start_rep rr, ?_⟩
      unfold runB at fin
      cases eb : b (startR N.length ws) S with
      | next ρ2 S2 => rw [eb] at fin; exact fun η2 H2 σ2 f2 rp2 er2 => fin η2 H2 .non f2 rp2 (.d .none)
      | ret u S2 => rw [eb] at fin; exact fin
      | brk ρ2 S2 => rw [eb] at fin; exact fin.elim
      | cnt ρ2 S2 => rw [eb] at fin; exact fin.elim
      | exc c fs ρ2 S2 => rw [eb] at fin; exact fin.elim
      | bad => rw [eb] at fin; exact fin.elim
    refine wpAny_mono ((PSs.nox hbody).run [] t1 (L2.start N vs) H _ inv0 pre) (fun fl t2 hf => ?_) fun e t2 hf => hf
    cases fl with
    | ret u =>
      obtain ⟨v, σ2, H2, J, rv, q⟩ := hf
      exact ⟨v, H2, J.os, J.bare, J.base, J.hok, rv, q⟩
    | next =>
      obtain ⟨σ2, H2, J, q⟩ := hf
      exact ⟨V.non, H2, J.os, J.bare, J.base, J.hok, rfl, q⟩
    | brk => exact False.elim (let ⟨_, _, _, q⟩ := hf; q)
    | cont => exact False.elim (let ⟨_, _, _, q⟩ := hf; q)
theorem FunD.okG {x qual : Str} {pr : Arguments} {body : List Stmt} {sc : Scope} {dvs : List V} {kws : List (Str × V)} {f : Addr} {fd : FuncData} {N ps : List Str} {k : Nat} {g : List W → Store → R W} (F : FunD K x qual pr body sc dvs kws f fd) (hS : FnScope N ps sc)
    (hb : ∀ (cdv : Value) (A : Around) (outer : List Env) (s : Shared) (H : Hp) (E : XK), Room k (A.deeper (envOfC qual sc s.heap.objs.size f cdv)) → A.guards = some [] → ∃ b : FS, (∀ ws S, ws.length = ps.length → g ws S = runB N.length b ws S) ∧
      PSs (bodyX P w K mg base N qual sc f cdv A outer s H E) body (tS ⟨K, ct⟩ NX b)) : FnG P w K mg base CX0 (k + 1) f fd ps (spG ⟨K, ct⟩ ps.length g) := by
  obtain ⟨oc, od, dV, kV, doc, pm, an, cdv, cv, sl, rfl, lk, hcd, _, _⟩ := F.ex
  exact fnG_of lk hcd hS fun A outer s H E r gd => hb cdv A outer s H E r gd
/-- no room: nothing is promised -/
theorem fnG_zero {k : Nat} {f : Addr} {fd : FuncData} {ps : List Str} {g : List W → Store → R W} (h : ∀ ws S, g ws S = .bad) : FnG P w K mg base CX0 k f fd ps (spG ⟨K, ct⟩ ps.length g) where
  len := fun vs H Q E h => h.1
  run := fun A outer s H args us vs Q E _ _ _ _ _ ⟨_, η, S, ws, rp, rr, fin⟩ => by
    rw [h] at fin
    exact fin.elim
end
end VI
set_option Elab.async false
set_option linter.all false
set_option maxRecDepth 100000
namespace VI
open PySem PySem.Spec PyProof.Rows L2

/-! the end: the law called by the row -/
/-- the row's question of the run -/
abbrev Asked (s1 : Shared) : Result → Shared → Prop := fun r t => r = .ok (.ret (.bool true)) ∧ OldK s1.heap t.heap ∧ t.os = s1.os ∧ AllBare t.gens
def scriptW (ns : List Int) : W := .fro (ns.map PyData.int)
theorem ints_rep {K : PySem.W.Frag} {η : List Addr} {H : Hp} : ∀ ns : List Int, RepDs K η H (ns.map PyData.int) (ns.map V.int)
  | [] => .nil
  | n :: ns => .cons (.int n) (ints_rep ns)
theorem script_rep {K : PySem.W.Frag} {H : Hp} {a : Addr} {ns : List Int} (hO : Only H) (hS : SqL K H a (ns.map V.int)) : RepW K [] H (scriptW ns) (.ref a) := by
  refine .fro ?_ (ints_rep ns)
  rcases hS with (z | ⟨o, z⟩) | z
  · rcases hO a with y | ⟨o, xs, y⟩
    · rw [y] at z; cases z
    · rw [y] at z; cases z
  · exact .inl ⟨o, z⟩
  · exact .inr z
section
variable {P : Program} {w : World} {K : PySem.W.Frag} {mg mb : Str → Option Value} {k : Nat} {fa a : Addr} {fd : FuncData} {x : Str} {ct : Nat → Option Addr} {g : List W → Store → R W} {s1 : Shared} {vs : List Value} {ns : List Int}
/-- from a heap in which nothing but the script is told of -/
theorem ask_from (KX : K.In s1.heap) (nsM : s1.heap.Ns mainGlobals mg) (nsB : s1.heap.Ns builtinsNs mb) (hbb : ∀ x : Str, x ≠ "__name__" → mb x = bootBuiltins x) (lim : s1.heap.NoLimit) (hg : s1.gens = #[])
    (ha : s1.heap.get? a = some { cls := .type "list", data := .seq vs.toArray }) (hr : Room k callerA)
    (F : ∀ base : Heap, K.In base → base.Ns mainGlobals mg → FnG P w K mg base CX0 k fa fd [x] (spG ⟨K, ct⟩ 1 g)) (bnd : ∀ (s : Shared) (u : Value), BindsTo s fd ⟨[u], []⟩ [(x, u)])
    (good : ∃ S', g [scriptW ns] [] = .ok (.d (.bool true)) S') (H : Hp) (hO : Only H) (hS : SqL K H a (ns.map V.int)) (hok : HOk P w H s1.heap) (only : ∀ c, H c ≠ none → c = a) (apart : H a ≠ none → K.lookup a = none) :
    codeAny (model P w) callerA (.call (.ref fa) ⟨[.ref a], []⟩) (Asked s1) s1 := by
  have seen : ∀ {c : Addr} {o : Obj}, s1.heap.get? c = some o → H c = none → (hidT s1.heap H).get? c = some o := fun z n => hidT_get z n
  have free : ∀ {c : Addr} {o : Obj}, s1.heap.get? c = some o → (∀ us n, o.data ≠ .seq us n) → H c = none := fun {c o} z nd => by
    cases q : H c with
    | none => rfl
    | some u =>
      obtain rfl : c = a := only c (by rw [q]; intro y; cases y)
      rw [ha] at z
      cases z
      exact (nd _ _ rfl).elim
  have spaces : ∀ {c : Addr} {m : Str → Option Value}, s1.heap.Ns c m → (hidT s1.heap H).Ns c m := fun {c m} ⟨o, es, ep, z, dz, rz⟩ => ⟨o, es, ep, seen z (free z fun us n y => by rw [dz] at y; cases y), dz, rz⟩
  have inK : K.In (hidT s1.heap H) := fun c o z => seen (KX c o z) (by
    cases q : H c with
    | none => rfl
    | some u =>
      obtain rfl : c = a := only c (by rw [q]; intro y; cases y)
      rw [apart (by rw [q]; intro y; cases y)] at z
      cases z)
  have md : L2.Mod K mg (hidT s1.heap H) := ⟨inK, spaces nsM, ⟨mb, spaces nsB, hbb⟩, let ⟨mc, z1, z2⟩ := lim; ⟨mc, spaces z1, z2⟩⟩
  have env : Env0 P w K mg (hidT s1.heap H) callerA [] s1 H := ⟨rfl, md, fun c o z => of_hidT z, Nat.le_of_eq (hidT_size _ _), trivial, fun c hc => (by cases hc), hok, .of_eq hg⟩
  obtain ⟨S', eg⟩ := good
  have rp : Rp K [] H [] := ⟨rfl, List.nodup_nil, fun l c o z => by simp at z⟩
  have pre : spG ⟨K, ct⟩ 1 g [.ref a] H (fun v _ => v = .bl true) E0 := ⟨rfl, [], [], [scriptW ns], rp, .cons (script_rep hO hS) .nil, by
    rw [eg]
    intro η2 H2 v f2 rp2 r2
    cases r2 with
    | d r2 => cases r2; rfl⟩
  refine codeAny_mono ((F _ inK (spaces nsM)).run callerA [] s1 H ⟨[.ref a], []⟩ [.ref a] [.ref a] _ _ hr rfl env (bnd s1 (.ref a)) (.cons rfl .nil) pre) fun r t h => ?_
  cases r with
  | error e => exact False.elim h
  | ok fl =>
    cases fl with
    | next => exact False.elim h
    | brk => exact False.elim h
    | cont => exact False.elim h
    | ret u =>
      obtain ⟨v, H2, os, bare, un, hok2, rel, q⟩ := h
      have qv : v = .bl true := q
      subst qv
      obtain rfl : u = Value.bool true := rel
      refine ⟨rfl, OldK.of_keep fun c o z => ?_, os, bare⟩
      cases q : H c with
      | none => exact un.keep c o z q (by intro y; cases y) (by simp)
      | some u =>
        rcases hO c with y | ⟨ob, xs, y⟩
        · rw [q] at y; cases y
        · obtain ⟨e1, _⟩ := hok c _ y
          obtain ⟨e2, _⟩ := hok2 c _ (un.frzs c ob _ y)
          rw [z] at e1
          cases e1
          exact e2
theorem ask (KX : K.In s1.heap) (nsM : s1.heap.Ns mainGlobals mg) (nsB : s1.heap.Ns builtinsNs mb) (hbb : ∀ x : Str, x ≠ "__name__" → mb x = bootBuiltins x) (lim : s1.heap.NoLimit) (hg : s1.gens = #[])
    (ha : s1.heap.get? a = some { cls := .type "list", data := .seq vs.toArray }) (hi : IntsAre vs ns) (hl : ns.length ≤ sizeLine) (hr : Room k callerA)
    (F : ∀ base : Heap, K.In base → base.Ns mainGlobals mg → FnG P w K mg base CX0 k fa fd [x] (spG ⟨K, ct⟩ 1 g)) (bnd : ∀ (s : Shared) (u : Value), BindsTo s fd ⟨[u], []⟩ [(x, u)])
    (good : ∃ S', g [scriptW ns] [] = .ok (.d (.bool true)) S') : codeAny (model P w) callerA (.call (.ref fa) ⟨[.ref a], []⟩) (Asked s1) s1 := by
  have rv := vals_ints hi
  have run := fun H => ask_from KX nsM nsB hbb lim hg ha hr F bnd good H
  cases hk : K.lookup a with
  | some o =>
    have z := KX a o hk
    rw [ha] at z
    cases z
    refine run (fun _ => none) (fun _ => Or.inl rfl) (Or.inr ⟨_, vs.toArray, _, hk, rfl, rfl, rfl, ?_, ?_⟩) (fun c u y => nomatch y) (fun c y => absurd rfl y) fun y => absurd rfl y
    · rw [List.size_toArray, hi.length]; exact hl
    · simpa using rv
  | none =>
    have at_a : ∀ c, (fun c => if c = a then some (HO.frz { cls := .type "list", data := .seq vs.toArray } (.lst (ns.map V.int))) else none) c ≠ none → c = a := fun c y => by
      by_cases h : c = a
      · exact h
      · exact absurd (if_neg h) y
    refine run (fun c => if c = a then some (.frz { cls := .type "list", data := .seq vs.toArray } (.lst (ns.map V.int))) else none) (fun c => ?_) (Or.inl (Or.inr ⟨_, if_pos rfl⟩)) (fun c u y => ?_) at_a fun _ => hk
    · by_cases h : c = a
      · exact Or.inr ⟨_, _, if_pos h⟩
      · exact Or.inl (if_neg h)
    · obtain rfl : c = a := at_a c (by rw [y]; intro n; cases n)
      have y2 := (if_pos rfl).symm.trans y
      cases y2
      exact ⟨ha, by rw [List.length_map]; exact hl, vs, _, rv, ha⟩
/-- what the row leaves, from the law's function -/
theorem walk_G {l : PySem.W.OpenLaw} {n : Nat} {q : Program} {loose : List Str} {XP : (Str → Option Value) → Heap → Prop} {YP : World → Heap → Prop} {d : DefRec}
    (hn : l.most = some n) (hn2 : n ≤ sizeLine) (hdf : d.params.defaults = []) (hr : Room k callerA)
    (F : ∀ (w : World) (mg : Str → Option Value) (fa : Addr) (h : Heap), YP w h → h.Ns mainGlobals mg → mg d.name = some (.ref fa) →
      ∃ (K : PySem.W.Frag) (fd : FuncData), K.In h ∧ (∀ (s : Shared) (u : Value), BindsTo s fd ⟨[u], []⟩ [(x, u)]) ∧
        ∀ base : Heap, K.In base → base.Ns mainGlobals mg → FnG l.prog w K mg base CX0 k fa fd [x] (spG ⟨K, ct⟩ 1 g))
    (good : ∀ ns : List Int, ns.length ≤ n → (∀ z ∈ ns, Builtin.Int.intBits z ≤ 1048576) → ∃ S', g [scriptW ns] [] = .ok (.d (.bool true)) S') :
    PySem.W.WalkO q loose XP YP l.row.toRowW d [] (fun f vs => PySem.call f vs) :=
  Att.attach_callB hn hdf fun w s₀ s1 mg mb fa o pm cd doc a vs ns G Y ho hd hcd hmg hobj hints hlen hbits hg => by
    obtain ⟨K, fd, KX, hb, hF⟩ := F w mg fa _ Y G.T.g hmg
    exact ask KX G.T.g G.T.b G.T.builtins G.T.nolimit hg hobj hints (Nat.le_trans hlen hn2) hr hF hb (good ns hlen hbits)
end
end VI
set_option Elab.async false
set_option linter.all false
set_option maxRecDepth 100000
namespace VI
open PySem PySem.Spec PyProof.Rows L2

/-! minus -/
def gNeg (w : W) (S : Store) : O := match w with
  | .d (.int i) => some (.d (.int (-i)), S)
  | _ => none
section
variable {X : Cx} {ct : Nat → Option Addr} {E : EX}
theorem i_neg {e : Expr} {pos : Pos} {f : FE} (he : PE X e (tF (gx X ct) E f)) : PE X (.UnaryOp .USub e pos) (tF (gx X ct) E (f1 gNeg f)) :=
  PEw (pe_un un_neg he) (get1 (r := rU fun i => .int (-i)) fun x H Q ⟨η, S, w, rp, r, h⟩ => by
    unfold gNeg at h
    split at h
    · obtain rfl := intW r
      exact ⟨_, rfl, same_val rp (.d (.int _)) h⟩
    · exact h.elim)
/-! o[i] op= e, a live list, i not below 0 -/
theorem get_live : PGet X fun o i H Q => ∃ p xs k v, o = .ref p ∧ i = .int k ∧ SqL X.K H p xs ∧ 0 ≤ k ∧ k < 2 ^ 63 ∧ xs[k.toNat]? = some v ∧ Q v H := by
  intro pins s σ H o i ov iv Q I ro ri ⟨p, xs, k, v, ho, hi, hq, h0, h1, hv, q⟩
  subst ho
  subst hi
  cases ro
  obtain ⟨t, rfl⟩ := ri
  obtain ⟨its, r, pl, hz⟩ := I.list hq
  obtain ⟨u, hu, ru⟩ := r.get hv
  exact wpAny_getItem_list pl.isList h0 h1 (by simpa using hu) ⟨v, H, I, ru, q⟩
def gAt (o i : W) (S : Store) : Option PyData := match o, i with
  | .loc l, .d (.int k) => match S[l]? with
    | some (.lst xs) => if 0 ≤ k ∧ k < 2 ^ 63 then xs[k.toNat]? else none
    | _ => none
  | _, _ => none
def fAugAt (fo fi : FE) (g : W → W → Store → O) (fe : FE) : FS := fun ρ S => toS ρ (fo ρ S) fun ov S1 => toS ρ (fi ρ S1) fun iw S2 => match gAt ov iw S2 with
  | some old => toS ρ (fe ρ S2) fun ev S3 => match g (.d old) ev S3 with
    | some (z, S4) => match gSet ov iw z S4 with
      | some S5 => .next ρ S5
      | none => .bad
    | none => .bad
  | none => .bad
theorem gAt_ok {K : PySem.W.Frag} {η : List Addr} {H : Hp} {S : Store} {wo wi : W} {o i : V} {d : PyData} (e : gAt wo wi S = some d) (rp : Rp K η H S) (ro : RepW K η H wo o) (ri : RepW K η H wi i) :
    ∃ p xs k v, o = .ref p ∧ i = .int k ∧ SqL K H p xs ∧ 0 ≤ k ∧ k < 2 ^ 63 ∧ xs[k.toNat]? = some v ∧ RepD K η H d v := by
  unfold gAt at e
  split at e
  · rename_i l k
    obtain rfl := intW ri
    split at e
    · rename_i ds q
      obtain ⟨a, vs, rfl, ha, h1, h2⟩ := live_at q rp ro
      split at e
      · rename_i hk
        obtain ⟨v, ev, rv⟩ := h2.get e
        exact ⟨a, vs, k, v, rfl, rfl, SqL.of h1, hk.1, hk.2, ev, rv⟩
      · cases e
    · cases e
  · cases e
theorem s_augAt {o i e : Expr} {op : Operator} {tpos pos : Pos} {fo fi fe : FE} {g : W → W → Store → O} (hop : OpR X (inplaceOp op) (Sim2 X ct g)) (ho : PE X o (tF (gx X ct) E fo)) (hi : PE X i (tF (gx X ct) E fi)) (he : PE X e (tF (gx X ct) E fe))
    (ha : ∀ ov iv new, augStore i ov iv new = (do holding [new, ov, iv] (setItem ov iv new); release [new, ov, iv] []; pure .next) := by intros; rfl) : PS X (.AugAssign (.Subscript o i tpos) op e pos) (tS (gx X ct) E (fAugAt fo fi g fe)) :=
  PSw (ps_augS ho hi get_live he (fun pins s σ H a b v u Q I ra rb q => hop pins s σ H a b v u Q I ra rb q) set_list ha) fun D σ H ⟨η, ρ, S, rp, er, h⟩ =>
  ⟨η, ρ, S, rp, er, FinR.mono (FinS.bind er h) fun v1 H1 ⟨η1, w1, S1, f1, rp1, r1, h1⟩ =>
    ⟨η1, ρ, S1, rp1, er.fu f1, FinR.mono (FinS.bind (er.fu f1) h1) fun v2 H2 ⟨η2, w2, S2, f2, rp2, r2, h2⟩ => by
      split at h2
      · rename_i old eo
        obtain ⟨p, xs, k, v, ev1, ev2, hq, k0, k1, hv, rv⟩ := gAt_ok eo rp2 (RepW.fu f2 _ _ r1) r2
        refine ⟨p, xs, k, v, ev1, ev2, hq, k0, k1, hv, η2, ρ, S2, rp2, (er.fu f1).fu f2, FinR.mono (FinS.bind ((er.fu f1).fu f2) h2) fun v3 H3 ⟨η3, w3, S3, f3, rp3, r3, h3⟩ => ?_⟩
        refine ⟨η3, S3, .d old, w3, rp3, .d (RepD.fu f3 _ _ rv), r3, ?_⟩
        cases eg : g (.d old) w3 S3 with
        | none => rw [eg] at h3; exact h3.elim
        | some zz =>
          obtain ⟨z, S4⟩ := zz
          rw [eg] at h3
          dsimp only at h3
          intro η4 H4 v4 f4 rp4 r4
          cases es : gSet w1 w2 z S4 with
          | none => rw [es] at h3; exact h3.elim
          | some S5 =>
            rw [es] at h3
            exact set_key es rp4 (RepW.fu ((f2.trans f3).trans f4) _ _ r1) (RepW.fu (f3.trans f4) _ _ r2) r4 fun η5 H5 f5 rp5 => h3 η5 H5 σ (f4.trans f5) rp5 (((((er.fu f1).fu f2).fu f3).fu f4).fu f5)
      · exact h2.elim⟩⟩
end
/-! all back to front, a tuple -/
theorem places_down (n : Nat) : Builtin.Slice.slicePlaces ((n : Int) - 1) (-1) (-1) = n := by
  unfold Builtin.Slice.slicePlaces
  rw [if_neg (by omega)]
  by_cases h : (n : Int) - 1 > -1
  · rw [if_pos h]
    have e : (-(-1 : Int)) = 1 := rfl
    rw [e, Int.ediv_one]
    omega
  · rw [if_neg h]
    omega
theorem pick_down (xs : Array Value) : ((List.range xs.size).filterMap fun (m : Nat) => xs[(((xs.size : Int) - 1) + (m : Int) * -1).toNat]?) = xs.toList.reverse := by
  have key : ∀ k, k ≤ xs.size → ((List.range k).filterMap fun (m : Nat) => xs[(((xs.size : Int) - 1) + (m : Int) * -1).toNat]?) = xs.toList.reverse.take k := fun k => by
    induction k with
    | zero => intro _; rfl
    | succ k ih =>
      intro hk
      have e1 : (((xs.size : Int) - 1) + (k : Int) * -1).toNat = xs.size - 1 - k := by omega
      have lt : xs.size - 1 - k < xs.size := by omega
      rw [List.range_succ, List.filterMap_append, ih (by omega), List.take_add_one]
      congr 1
      rw [List.getElem?_reverse (by rw [Array.length_toList]; omega), Array.length_toList]
      simp only [List.filterMap_cons, List.filterMap_nil]
      rw [e1, Array.getElem?_toList, Array.getElem?_eq_getElem lt]
      rfl
  rw [key xs.size (Nat.le_refl _), List.take_of_length_le (by rw [List.length_reverse, Array.length_toList]; exact Nat.le_refl _)]
section
variable {P : Program} {w : World} {A : Around} {E : Value → Shared → Prop} {s : Shared}
theorem applied_down {sl : Addr} {vs : Value} {n : Nat} {Q : Int × Int × Nat → Shared → Prop} (hs : s.heap.IsSliceOf sl .none .none vs) (ps : IsPart vs (some (-1))) (h : Q ((n : Int) - 1, -1, n) s) :
    wpAny (model P w) A (Builtin.Slice.sliceApplied (.ref sl) (pure (n : Int))) Q E s := by
  obtain ⟨os, g, c, d⟩ := id hs
  unfold Builtin.Slice.sliceApplied Builtin.Slice.sliceFields
  refine wpAny_bind (wpAny_bind (wpAny_field g d (x := .none) rfl (wpAny_bind (wpAny_field g d (x := .none) rfl (wpAny_bind (wpAny_field g d (x := vs) rfl (wpAny_pure ?_)))))))
  refine wpAny_bind (HT.slicePart_ ps ?_)
  show wpAny _ _ (if ((-1 : Int) == 0) = true then _ else _) _ _ s
  rw [if_neg (by decide)]
  refine wpAny_bind (PyProof.Rows.slicePart_none (wpAny_bind (PyProof.Rows.slicePart_none (wpAny_bind (wpAny_pure ?_)))))
  have e : Builtin.Slice.sliceAdjust none none (-1) (n : Int) = ((n : Int) - 1, -1) := by
    unfold Builtin.Slice.sliceAdjust
    rfl
  show wpAny _ _ (match Builtin.Slice.sliceAdjust none none (-1) (n : Int) with | (lo, hi) => pure (lo, (-1 : Int), Builtin.Slice.slicePlaces lo hi (-1))) _ _ s
  rw [e]
  show wpAny _ _ (pure ((n : Int) - 1, (-1 : Int), Builtin.Slice.slicePlaces ((n : Int) - 1) (-1) (-1))) _ _ s
  rw [places_down]
  exact wpAny_pure h
theorem item_tupDown {t sl : Addr} {items : Array Value} {vs : Value} {Q : Value → Shared → Prop} (ht : IsTup s.heap t items) (hs : s.heap.IsSliceOf sl .none .none vs) (ps : IsPart vs (some (-1)))
    (h : Q (.ref s.heap.objs.size) { s with heap := s.heap.push { cls := .type "tuple", data := .seq items.toList.reverse.toArray } }) (hz : items.size ≤ sizeLine) : wpAny (model P w) A (getItem (.ref t) (.ref sl)) Q E s := by
  have fits : sizeOk (.seq items.toList.reverse.toArray) := by
    show items.toList.reverse.toArray.size ≤ sizeLine
    rw [List.size_toArray, List.length_reverse, Array.length_toList]
    exact hz
  have isS : s.TypeIs (.ref sl) "slice" := let ⟨os, g, c, _⟩ := id hs; ⟨os, g, c⟩
  unfold getItem
  try with_reducible refine wpAny_holding ?_
  first | refine wpAny_bind (wpAny_pure ?_) | skip
  refine wpAny_bind (wpAny_sequenceKey ht.typeIs (by decide) ?_)
  refine wpAny_bind (wpAny_callSpecial?_slot (name := Str.ofString "__getitem__") ht.typeIs PyProof.Rows.slot_tuple_getitem (wpAny_call_entry PyProof.Rows.slot_tuple_getitem ht.typeIs PyProof.Rows.entry_tuple_getitem ?_ (PyProof.Rows.args_tuple_getitem _ _)))
  show wpAny _ _ (Builtin.Tuple.tupleItemsOf (.ref t) >>= _) _ _ s
  refine wpAny_bind (PyProof.Rows.tupleItemsOf_ ht (wpAny_bind (wpAny_typeOf isS ?_)))
  rw [if_pos (by decide)]
  refine wpAny_bind (applied_down hs ps ?_)
  have no : ¬ ((((items.size : Int) - 1) == 0 && (-1 : Int) == 1 && items.size == items.size) = true) := by
    intro q
    rw [Bool.and_eq_true, Bool.and_eq_true] at q
    exact absurd q.1.2 (by decide)
  show wpAny _ _ (if ((((items.size : Int) - 1) == 0 && (-1 : Int) == 1 && items.size == items.size) = true) then _ else _) _ _ s
  rw [if_neg no, pick_down]
  first
    | exact wpAny_bind (m := Builtin.Tuple.tupleExact _) (wpAny_newObj_type (wpAny_pure ⟨_, rfl, wpAny_pure h⟩) fits)
    | exact wpAny_bind (m := Builtin.Tuple.tupleExact _) (wpAny_newObj_type (wpAny_bind (wpAny_pure (wpAny_pure ⟨_, rfl, wpAny_pure h⟩))) fits)
    | exact wpAny_bind (wpAny_bind (m := Builtin.Tuple.tupleExact _) (wpAny_newObj_type (wpAny_pure (wpAny_pure ⟨_, rfl, wpAny_pure h⟩)) fits))
    | exact wpAny_bind (wpAny_bind (m := Builtin.Tuple.tupleExact _) (wpAny_newObj_type (wpAny_pure ⟨_, rfl, wpAny_pure h⟩) fits))
end
section
variable {X : Cx} {ct : Nat → Option Addr} {E : EX}
def tRevB (K : PySem.W.Frag) (te : TE) : TE := fun σ H Q => te σ H fun x H1 => (∃ a xs, x = .ref a ∧ SqL K H1 a xs ∧ ∀ p, H1 p = none → Q (.ref p) (upd H1 p (.lst xs.reverse))) ∨ ∃ a xs, x = .ref a ∧ SqT K H1 a xs ∧ ∀ p, H1 p = none → Q (.ref p) (upd H1 p (.tup xs.reverse))
theorem pe_revB {e : Expr} {te : TE} {k : Nat} {p1 p2 p3 pos : Pos} (he : PE X e te) : PE X (.Subscript e (.Slice none none (some (.UnaryOp .USub (.Constant (.int 1) k p1) p2)) p3) pos) (tRevB X.K te) := ⟨fun pins s σ H Q I h => by
  refine Subscript_ (thn (he.run pins s σ H _ I h) fun v s1 ⟨x, H1, I1, r1, q1⟩ => ?_)
  have step : PO X (some (.UnaryOp .USub (.Constant (.int 1) k p1) p2)) (tPart (tUn (rU fun i => .int (-i)) (tC (.int 1)))) := po_some (pe_un un_neg pe_int)
  refine wpAny_Slice (thn (po_none.run pins s1 σ H1 (fun o H2 => o = none ∧ H2 = H1) I1 ⟨rfl, rfl⟩) fun vl s2 ⟨o2, H2, I2, pl, el, e2⟩ => ?_)
  subst el e2
  refine thn (po_none.run pins s2 σ H2 (fun o H3 => o = none ∧ H3 = H2) I2 ⟨rfl, rfl⟩) fun vu s3 ⟨o3, H3, I3, pu, eu, e3⟩ => ?_
  subst eu e3
  refine thn (step.run pins s3 σ H3 (fun o H4 => o = some (-1) ∧ H4 = H3) I3 ⟨1, rfl, -1, rfl, rfl, rfl⟩) fun vs s4 ⟨o4, H4, I4, ps, eo, e4⟩ => ?_
  subst eo e4
  have I5 : Inv X pins σ H4 { s4 with heap := s4.heap.push { cls := .type "slice", data := .fields #[vl, vu, vs] } } := I4.kept (t' := s4.toks) fun b ob z => Heap.get?_push_of_some _ z
  rcases q1 with ⟨a, xs, ex, hx, q⟩ | ⟨a, xs, ex, hx, q⟩
  · subst ex
    cases r1
    obtain ⟨its, r, ht, hz⟩ := I5.list hx
    have hl := r.length
    show wpAny (model X.prog X.w) X.A (subscriptTail e (.Slice none none (some (.UnaryOp .USub (.Constant (.int 1) k p1) p2)) p3) (.ref a) (.ref s4.heap.objs.size)) (EP X pins σ Q) X.xe { s4 with heap := s4.heap.push { cls := .type "slice", data := .fields #[vl, vu, vs] } }
    refine tail_any (ops := [.ref a, .ref s4.heap.objs.size]) ht.isList.typeIs PySem.slot_list_getitem.lookup ?_ (by with_unfolding_all rfl)
    refine wpAny_getItem_list_slice ht.isList (Heap.IsSliceOf.new _ vl vu vs) pl pu ps (by decide) ?_ (by rw [List.size_toArray]; omega)
    rw [PySem.W.krv_pick]
    exact ⟨.ref _, _, I5.laid (t' := s4.toks) (o := .lst xs.reverse) (fun b ob z => Heap.get?_push_of_some _ z) (Nat.le_refl _) ⟨by rw [List.length_reverse]; exact hz, _, 0, r.reverse, Heap.get?_push_size _ rfl⟩, rfl, q _ (I5.hok.fresh (Nat.le_refl _))⟩
  · subst ex
    cases r1
    cases pl
    cases pu
    obtain ⟨its, r, ht, hz⟩ := I5.tuple hx
    have hl := r.length
    show wpAny (model X.prog X.w) X.A (subscriptTail e (.Slice none none (some (.UnaryOp .USub (.Constant (.int 1) k p1) p2)) p3) (.ref a) (.ref s4.heap.objs.size)) (EP X pins σ Q) X.xe { s4 with heap := s4.heap.push { cls := .type "slice", data := .fields #[.none, .none, vs] } }
    refine tail_any (ops := [.ref a, .ref s4.heap.objs.size]) ht.typeIs PyProof.Rows.slot_tuple_getitem.lookup ?_ (by with_unfolding_all rfl)
    refine item_tupDown ht (Heap.IsSliceOf.new _ .none .none vs) ps ?_ (by rw [List.size_toArray]; omega)
    exact ⟨.ref _, _, I5.laid (t' := s4.toks) (o := .tup xs.reverse) (fun b ob z => Heap.get?_push_of_some _ z) (Nat.le_refl _) ⟨by rw [List.length_reverse]; exact hz, _, r.reverse, IsTup.new _ _⟩, rfl, q _ (I5.hok.fresh (Nat.le_refl _))⟩⟩
def gRevB (w : W) (S : Store) : O := match asTW w with
  | some ws => some (mkT ws.reverse, S)
  | none => gRev w S
theorem RepWs.reverse {K : PySem.W.Frag} {η : List Addr} {H : Hp} : ∀ {ws : List W} {vs : List V}, RepWs K η H ws vs → RepWs K η H ws.reverse vs.reverse
  | [], _, h => by cases h; exact .nil
  | x :: xs, _, h => by
    cases h with
    | cons h1 h2 =>
      rw [List.reverse_cons, List.reverse_cons]
      exact (RepWs.reverse h2).append (.cons h1 .nil)
theorem i_revB {e : Expr} {f : FE} {k : Nat} {p1 p2 p3 pos : Pos} (he : PE X e (tF (gx X ct) E f)) : PE X (.Subscript e (.Slice none none (some (.UnaryOp .USub (.Constant (.int 1) k p1) p2)) p3) pos) (tF (gx X ct) E (f1 gRevB f)) :=
  PEw (pe_revB he) (get1 (r := fun x H1 Q => (∃ a xs, x = .ref a ∧ SqL X.K H1 a xs ∧ ∀ p, H1 p = none → Q (.ref p) (upd H1 p (.lst xs.reverse))) ∨ ∃ a xs, x = .ref a ∧ SqT X.K H1 a xs ∧ ∀ p, H1 p = none → Q (.ref p) (upd H1 p (.tup xs.reverse))) fun x H Q ⟨η, S, w, rp, r, h⟩ => by
    unfold gRevB at h
    split at h
    · rename_i ws e
      obtain ⟨a, vs, rfl, h1, h2⟩ := asTW_ok e r
      exact .inr ⟨a, vs, rfl, h1, new_mkT rp h2.reverse h⟩
    · unfold gRev at h
      split at h
      · rename_i ws e
        obtain ⟨a, vs, rfl, h1, h2⟩ := asLW_ok e rp r
        cases q : datas ws with
        | none => rw [q] at h; exact h.elim
        | some ds =>
          rw [q] at h
          exact .inl ⟨a, vs, rfl, h1, new_list rp (datas_ok q h2).reverse h⟩
      · exact h.elim)
end
end VI
set_option Elab.async false
set_option linter.all false
set_option maxRecDepth 100000
namespace VI
open PySem PySem.Spec PyProof.Rows L2

/-! calls of the program's own defs -/
/-- a def of the module: the name x gives it, it does g -/
def Callee (P : Program) (w : World) (K : PySem.W.Frag) (mg : Str → Option Value) (base : Heap) (ct : Nat → Option Addr) (k : Nat) (x : Str) (ps : List Str) (g : List W → Store → R W) : Prop :=
  ∃ (f : Addr) (fd : FuncData), FnG P w K mg base CX0 k f fd ps (spG ⟨K, ct⟩ ps.length g) ∧ mg x = some (.ref f) ∧ PySem.W.keepIn K (.ref f) = true ∧ Binds K fd ps []
section
variable {X : Cx} {ct : Nat → Option Addr} {k n : Nat} {x : Str} {ps : List Str} {g : List W → Store → R W} {p pos : Pos} {e : Expr} {es : List Expr} {fa : FA}
theorem cCall (C : Callee X.prog X.w X.K X.mg X.base ct k x ps g) (hr : Room k X.A) (hgd : X.A.guards = some []) (ha : PA X (e :: es) (tA (gx X ct) NX fa)) (hn : ps.length = n := by rfl) (hg : Gl X x := by rfl) (hdb : (x == ("__debug__" : Str)) = false := by decide)
    (he : starEach (e :: es) X.env = (false, eval e X.env) :: starEach es X.env := by rfl) (hpl : (backTo pos (starEach es X.env)).any (·.1) = false := by rfl) : PE X (.Call (.Name x p) (e :: es) [] pos) (tF (gx X ct) NX (fCall n g fa)) := by
  obtain ⟨f, fd, F, m, kp, b⟩ := C
  subst hn
  exact i_call F hr hgd hg m kp b pass0 ha hdb he hpl
theorem cCallL (C : Callee X.prog X.w X.K X.mg X.base ct k x ps g) (hr : Room k X.A) (hgd : X.A.guards = some []) (ha : PA X (e :: es) (tA (gx X ct) NX fa)) (hn : ps.length = n := by rfl) (hg : Gl X x := by rfl) (hdb : (x == ("__debug__" : Str)) = false := by decide)
    (he : starEach (e :: es) X.env = (false, eval e X.env) :: starEach es X.env := by rfl) (hpl : (backTo pos (starEach es X.env)).any (·.1) = false := by rfl) : PE X (.Call (.Name x p) (e :: es) [] pos) (tF (gx X ct) NX (fCallL n g fa)) := by
  obtain ⟨f, fd, F, m, kp, b⟩ := C
  subst hn
  exact i_callL F hr hgd hg m kp b pass0 ha hdb he hpl
end
theorem hu64 {k : Nat} {A : Around} (r : Room k A) : A.units + 64 < cLine := by have := r.un; omega
theorem hu65 {k : Nat} {A : Around} (r : Room k A) : A.units + 65 < cLine := by have := r.un; omega
/-! a comprehension's names -/
def blkB (N : List Str) (sc scope : Scope) (own : List (Str × Nat)) : Bool :=
  decide (scope.kind = .function) && scope.names.all (fun y => decide (scope.names.lookup y.1 = some y.2)) && own.all (fun p => decide (N[p.2]? = some p.1)) &&
    scope.names.all (fun y => !decide (y.2 = .free) || (decide (sc.names.lookup y.1 = some .cell) || decide (sc.names.lookup y.1 = some .free))) &&
    scope.names.all (fun y => !(decide (y.2 = .local) || decide (y.2 = .cell)) || (decide (y.1 ∈ own.map (·.1)) || decide (y.1 ∉ N)))
theorem blk_of {N : List Str} {sc scope : Scope} {own : List (Str × Nat)} (h : blkB N sc scope own = true) : BlkOk N sc scope own := by
  unfold blkB at h
  simp only [Bool.and_eq_true, List.all_eq_true, decide_eq_true_eq, Bool.or_eq_true, Bool.not_eq_true', decide_eq_false_iff_not] at h
  obtain ⟨⟨⟨⟨h1, h2⟩, h3⟩, h4⟩, h5⟩ := h
  refine ⟨h1, fun y m => h2 y m, fun p m => h3 p m, fun y m e => ?_, fun y m e => ?_⟩
  · rcases h4 y m with z | z
    · exact absurd e z
    · exact z
  · rcases h5 y m with z | z
    · rw [Bool.or_eq_false_iff, decide_eq_false_iff_not, decide_eq_false_iff_not] at z
      rcases e with e | e
      · exact absurd e z.1
      · exact absurd e z.2
    · exact z

/-! a, b = e1, e2 -/
def fPar (i j : Nat) (a : FA) : FS := fun ρ S => toS ρ (a ρ S) fun ws S1 => match ws with
  | [u, v] => .next ((ρ.set i (some u)).set j (some v)) S1
  | _ => .bad
theorem s_par {X : Cx} {ct : Nat → Option Addr} {E : EX} (i j : Nat) {x y : Str} {a b : Expr} {fa : FA} {px py pt pos : Pos} {kt k2 : Nat} {pt2 : Pos} (hc : X.calm = true) (hN : X.N.Nodup) (hij : i ≠ j) (ha : PA X [a, b] (tA (gx X ct) E fa))
    (hi : X.N[i]? = some x := by rfl) (hj : X.N[j]? = some y := by rfl) (hx : X.env.scope.names.lookup x = some .local := by rfl) (hy : X.env.scope.names.lookup y = some .local := by rfl)
    (hw : swappedStores [.Tuple [.Name x px, .Name y py] kt pt] (.Tuple [a, b] k2 pt2) X.env = pure (some [x, y]) := by rfl)
    (hs : swapsWithSole [.Tuple [.Name x px, .Name y py] kt pt] (.Tuple [a, b] k2 pt2) pos.line X.env = pure false := by rfl) :
    PS X (.Assign [.Tuple [.Name x px, .Name y py] kt pt] (.Tuple [a, b] k2 pt2) pos) (tS (gx X ct) E (fPar i j fa)) := PSw (ps_par hc hN hi hj hij hx hy ha hw hs) fun D σ H ⟨η, ρ, S, rp, er, h⟩ =>
  ⟨η, ρ, S, rp, er, FinR.mono (FinS.bind er h) fun vs H1 ⟨η1, ws, S1, f1, rp1, r1, h1⟩ => by
    split at h1
    · rename_i u v
      obtain ⟨v1, v2, rfl, r2, r3⟩ := repWs2 r1
      exact ⟨v1, v2, rfl, h1 η1 H1 _ (Fu.refl _ _) rp1 (((er.fu f1).set r2).set r3)⟩
    · exact h1.elim⟩
end VI
set_option Elab.async false
set_option linter.all false
set_option maxRecDepth 100000
namespace VI
open PySem PySem.Spec PyProof.Rows L2

/-! constants of the module -/
def KCon (K : PySem.W.Frag) (mg : Str → Option Value) (x : Str) (d : PyData) : Prop := ∃ (v : V) (u : Value), mg x = some u ∧ RelV v u ∧ ∀ η H, RepD K η H d v
theorem kCon {X : Cx} {ct : Nat → Option Addr} {E : EX} {x : Str} {d : PyData} {pos : Pos} (C : KCon X.K X.mg x d) (hg : Gl X x := by rfl) (hd : (x == ("__debug__" : Str)) = false := by decide) : PE X (.Name x pos) (tF (gx X ct) E (fC d)) := by
  obtain ⟨v, u, m, r, rd⟩ := C
  exact ig hg m r rd hd
def kRow (k : List Str) (d : PyData) : List Str × PyData := (k, d)
/-- a written dict whose keys are tuples of texts -/
def KDic (P : Program) (w : World) (K : PySem.W.Frag) (mg : Str → Option Value) (x : Str) (tab : List (List Str × PyData)) : Prop :=
  ∃ (d : Addr) (xs : List (List Key × Addr × Value)), mg x = some (.ref d) ∧ (∀ h : Heap, K.In h → h.DictOfH (tupleKind (mixKind P w)) d xs) ∧
    ∀ ks pd, tab.lookup ks = some pd → ∃ p, atKey xs (ks.map Sum.inr) = some p ∧ ∃ v, RelV v p.2 ∧ ∀ η H, RepD K η H pd v
def strsD : List PyData → Option (List Str)
  | [] => some []
  | .str x :: r => (strsD r).map (x :: ·)
  | _ :: _ => none
theorem strsD_ok {K : PySem.W.Frag} {η : List Addr} {H : Hp} : ∀ {ds : List PyData} {vs : List V} {ks : List Str}, strsD ds = some ks → RepDs K η H ds vs → vs = (ks.map (Sum.inr (α := Int))).map kV
  | [], _, _, e, r => by cases e; cases r; rfl
  | .str x :: ds, _, ks, e, r => by
    cases r with
    | cons r1 r2 =>
      cases r1
      cases q : strsD ds with
      | none => rw [strsD, q] at e; cases e
      | some ks' =>
        rw [strsD, q] at e
        cases e
        rw [strsD_ok q r2]
        rfl
  | .none :: _, _, _, e, _ => by cases e
  | .bool _ :: _, _, _, e, _ => by cases e
  | .int _ :: _, _, _, e, _ => by cases e
  | .list _ :: _, _, _, e, _ => by cases e
  | .tuple _ :: _, _, _, e, _ => by cases e
  | .dict _ :: _, _, _, e, _ => by cases e
def gKD (tab : List (List Str × PyData)) (w : W) (S : Store) : O := match w with
  | .d (.tuple ds) => match strsD ds with
    | some ks => (tab.lookup ks).map fun pd => (.d pd, S)
    | none => none
  | _ => none
theorem kDic {X : Cx} {ct : Nat → Option Addr} {E : EX} {k : Nat} {x : Str} {tab : List (List Str × PyData)} {i : Expr} {p pos : Pos} {f : FE} (C : KDic X.prog X.w X.K X.mg x tab) (hr : Room k X.A) (hi : PE X i (tF (gx X ct) E f)) (hg : Gl X x := by rfl) (hs : NoSl i := by intro _ _; rfl)
    (hd : (x == ("__debug__" : Str)) = false := by decide) : PE X (.Subscript (.Name x p) i pos) (tF (gx X ct) E (f1 (gKD tab) f)) := by
  obtain ⟨d, xs, m, hD, hT⟩ := C
  have hu : X.A.units + 1 < cLine := by have := hr.un; omega
  have ho : PE X (.Name x p) (tC (.ref d)) := pe_glob hg m rfl hd
  refine ⟨fun pins s σ H Q I h => ?_⟩
  refine subD_of PySem.F.slot_dict_getitem.lookup hs (thn (ho.run pins s σ H (fun y H1 => y = .ref d ∧ H1 = H) I ⟨rfl, rfl⟩) fun u s1 ⟨y, H1, I1, ry, ey, eH⟩ => ?_)
  subst ey
  subst eH
  obtain rfl : u = Value.ref d := ry
  refine thn (hi.run pins s1 σ H1 _ I1 (get1 (r := fun y H2 Q => ∃ b ks pd, y = .ref b ∧ SqT X.K H2 b ((ks.map (Sum.inr (α := Int))).map kV) ∧ tab.lookup ks = some pd ∧ ∀ v, (∀ η H, RepD X.K η H pd v) → Q v H2) (fun y H2 Q ⟨η, S, w, rp, r, h⟩ => ?_) σ H1 Q h)) fun iv s2 ⟨y, H2, I2, ry2, b, ks, pd, ey, hb, hl, q⟩ => ?_
  · clear h
    subst ey
    obtain rfl : iv = Value.ref b := ry2
    obtain ⟨pr, ep, v, rv, rd⟩ := hT ks pd hl
    have dd := hD s2.heap I2.kIn
    obtain ⟨its, rr, it, _⟩ := I2.tuple hb
    obtain ⟨o, g1, g2, n, g3⟩ := it
    have key : (tupleKind (mixKind X.prog X.w)).is s2.heap (ks.map Sum.inr) b := ⟨o, its.toArray, n, g1, g2, g3, by simpa using items_are rr⟩
    refine ⟨dd.typeIs, wpAny_getItem_heap (tupleKind_room_in1 hu) key dd ep ⟨v, H2, I2.tok _, rv, q v rd⟩⟩
  · unfold gKD at h
    split at h
    · rename_i ds
      split at h
      · rename_i ks ek
        cases r with
        | d r =>
          cases r with
          | tuple h1 h2 =>
            rw [strsD_ok ek h2] at h1
            cases el : tab.lookup ks with
            | none => rw [el] at h; exact h.elim
            | some pd =>
              rw [el] at h
              exact ⟨_, ks, pd, rfl, h1, el, fun v rv => same_val rp (.d (rv _ _)) h⟩
      · exact h.elim
    · exact h.elim
end VI
set_option Elab.async false
set_option linter.all false
set_option maxRecDepth 100000
namespace VI
open PySem PySem.Spec PyProof.Rows L2

/-! sorted, of texts -/
/-- x not above y -/
def leS (x y : Str) : Bool := !ltCps y.cps.toList x.cps.toList
theorem leS_iff {x y : Str} : leS x y = true ↔ x.cps.toList ≤ y.cps.toList := by
  unfold leS
  rw [ltCps_eq, Bool.not_eq_true', decide_eq_false_iff_not]
  exact List.not_lt
theorem leS_trans {x y z : Str} (h1 : leS x y = true) (h2 : leS y z = true) : leS x z = true := leS_iff.mpr (List.le_trans (leS_iff.mp h1) (leS_iff.mp h2))
theorem leS_total (x y : Str) : leS x y = true ∨ leS y x = true := by
  rcases List.le_total x.cps.toList y.cps.toList with h | h
  · exact .inl (leS_iff.mpr h)
  · exact .inr (leS_iff.mpr h)
theorem leS_anti {x y : Str} (h1 : leS x y = true) (h2 : leS y x = true) : x = y := by
  have e := List.le_antisymm (leS_iff.mp h1) (leS_iff.mp h2)
  cases x with
  | mk a =>
    cases y with
    | mk b =>
      have e' : a.toList = b.toList := e
      rw [Array.toList_inj.mp e']
theorem rising_pair : ∀ (r : List Str) (p : Str), risingS p r = true → (p :: r).Pairwise fun a b => leS a b = true
  | [], p, _ => List.pairwise_singleton _ _
  | x :: r, p, h => by
    rw [risingS, Bool.and_eq_true] at h
    have t := rising_pair r x h.2
    refine List.pairwise_cons.mpr ⟨fun z hz => ?_, t⟩
    rcases List.mem_cons.mp hz with e | hz
    · rw [e]; exact h.1
    · exact leS_trans h.1 ((List.pairwise_cons.mp t).1 z hz)
theorem sorted_pair : ∀ ys : List Str, sortedS ys = true → ys.Pairwise fun a b => leS a b = true
  | [], _ => List.Pairwise.nil
  | x :: r, h => rising_pair r x h
def srtS (zs : List Str) : List Str := zs.mergeSort leS
theorem srtS_eq {ys zs : List Str} (hp : ys.Perm zs) (hs : sortedS ys = true) : ys = srtS zs :=
  List.Perm.eq_of_pairwise (fun a b _ _ h1 h2 => leS_anti h1 h2) (sorted_pair ys hs) (List.pairwise_mergeSort (le := leS) (fun a b c => leS_trans) (fun a b => (Bool.or_eq_true _ _).mpr (leS_total a b)) zs) (hp.trans (List.mergeSort_perm zs leS).symm)
def gSorted (ws : List W) (S : Store) : O := match ws with
  | [u] => match asLW u S with
    | some us => match datas us with
      | some ds => match strsD ds with
        | some ks => if ks.length < 64 then some (.d (.list ((srtS ks).map .str)), S) else none
        | none => none
      | none => none
    | none => none
  | _ => none
theorem strs_rep {K : PySem.W.Frag} {η : List Addr} {H : Hp} : ∀ ks : List Str, RepDs K η H (ks.map PyData.str) (ks.map V.str)
  | [] => .nil
  | k :: ks => .cons (.str k) (strs_rep ks)
theorem strsD_vals {K : PySem.W.Frag} {η : List Addr} {H : Hp} {ds : List PyData} {vs : List V} {ks : List Str} (e : strsD ds = some ks) (r : RepDs K η H ds vs) : vs = ks.map V.str := by
  rw [strsD_ok e r, List.map_map]
  rfl
theorem c_sorted {X : Cx} {ct : Nat → Option Addr} : CallR X (.builtin "sorted") (SimL X ct gSorted) := CallR.fit cr_sortedS fun xs H Q ⟨η, S, ws, rp, rr, q⟩ => by
  unfold gSorted at q
  split at q
  · rename_i u
    obtain ⟨v, rfl, r⟩ := repWs1 rr
    split at q
    · rename_i us e1
      obtain ⟨a, vs, rfl, h1, h2⟩ := asLW_ok e1 rp r
      split at q
      · rename_i ds e2
        have h3 := datas_ok e2 h2
        split at q
        · rename_i ks e3
          split at q
          · rename_i hl
            rw [strsD_vals e3 h3] at h1
            refine ⟨a, ks, rfl, h1, hl, fun ys p hp hs np => ?_⟩
            rw [srtS_eq hp hs]
            exact new_list rp (strs_rep _) q p np
          · exact q.elim
        · exact q.elim
      · exact q.elim
    · exact q.elim
  · exact q.elim
end VI
set_option Elab.async false
set_option linter.all false
set_option maxRecDepth 100000
namespace VI
open PySem PySem.Spec PyProof.Rows L2

/-! a module's defs, all of them -/
def DefAt (K : PySem.W.Frag) (mg : Str → Option Value) (x : Str) (st : Stmt) : Prop := ∃ (f : Addr) (fd : FuncData), FunD K x x (defArgs st) (defBody st) (defScope st) [] [] f fd ∧ mg x = some (.ref f)
section
variable {P : Program} {w : World} {K : PySem.W.Frag} {mg : Str → Option Value} {base : Heap} {ct : Nat → Option Addr} {n : Nat} {x : Str} {st : Stmt} {N ps : List Str} {g : List W → Store → R W} {b : FS}
/-- how its arguments bind -/
def Bnd (x : Str) (st : Stmt) (ps : List Str) : Prop := ∀ (kV doc pm : Value) (an : Option Addr) (cdv cv : Value) (us : List Value), us.length = ps.length → bindArgs (PySem.W.fnOf x x (defArgs st) (defBody st) (defScope st) .none kV doc pm an cdv cv) ⟨us, []⟩ = pure (ps.zip us)
theorem callee_zero (D : DefAt K mg x st) (hB : Bnd x st ps) (h : ∀ ws S, g ws S = .bad) : Callee P w K mg base ct n x ps g := by
  obtain ⟨f, fd, F, m⟩ := D
  exact ⟨f, fd, fnG_zero h, m, F.kp, F.bindsN hB⟩
theorem callee_succ (D : DefAt K mg x st) (hB : Bnd x st ps) (hS : FnScope N ps (defScope st)) (e : ∀ ws S, g ws S = runB N.length b ws S)
    (h : ∀ (f : Addr) (cdv : Value) (A : Around) (outer : List Env) (s : Shared) (H : Hp) (E : XK), Room n (A.deeper (envOfC x (defScope st) s.heap.objs.size f cdv)) → A.guards = some [] → PSs (bodyX P w K mg base N x (defScope st) f cdv A outer s H E) (defBody st) (tS ⟨K, ct⟩ NX b)) :
    Callee P w K mg base ct (n + 1) x ps g := by
  obtain ⟨f, fd, F, m⟩ := D
  exact ⟨f, fd, FunD.okG F hS fun cdv A outer s H E r gd => ⟨b, fun ws S _ => e ws S, h f cdv A outer s H E r gd⟩, m, F.kp, F.bindsN hB⟩
end
end VI
set_option Elab.async false
set_option linter.all false
set_option maxRecDepth 100000
namespace VI
open PySem PySem.Spec PyProof.Rows L2

/-! isinstance, of built-in types -/
def isT (t T : String) : Bool := t == T || (t == "bool" && T == "int")
theorem kit_all (K : PySem.W.Frag) : (tys.all fun t => tys.all fun T => decide (PySem.W.kitOne K (.type t) (.type T) = some (isT t T))) = true := by kernel_rfl
theorem kit_ty {K : PySem.W.Frag} {t T : String} (h1 : t ∈ tys) (h2 : T ∈ tys) : PySem.W.kitOne K (.type t) (.type T) = some (isT t T) :=
  of_decide_eq_true (List.all_eq_true.mp (List.all_eq_true.mp (kit_all K) t h1) T h2)
def tyW (w : W) (S : Store) : Option String := match w with
  | .d .none => some "NoneType"
  | .d (.bool _) => some "bool"
  | .d (.int _) => some "int"
  | .d (.str _) => some "str"
  | .d (.list _) => some "list"
  | .d (.tuple _) => some "tuple"
  | .d (.dict _) => none
  | .loc l => match S[l]? with
    | some (.lst _) => some "list"
    | _ => none
  | .tp _ => some "tuple"
  | .fro _ => some "list"
theorem tup_ty {K : PySem.W.Frag} {H : Hp} {a : Addr} {vs : List V} (h : SqT K H a vs) : TyX K H (.ref a) (.type "tuple") := by
  rcases h with (h | ⟨o, h⟩) | ⟨o, its, n, e, c, _⟩
  · exact .base (.tup h)
  · exact .fTuple h
  · exact .kTuple e c
theorem tyW_ok {K : PySem.W.Frag} {η : List Addr} {H : Hp} {S : Store} {w : W} {v : V} {t : String} (e : tyW w S = some t) (rp : Rp K η H S) (r : RepW K η H w v) : TyX K H v (.type t) ∧ t ∈ tys := by
  cases w with
  | d x =>
    cases r with
    | d r =>
      cases r with
      | none => cases e; exact ⟨.base .non, by decide⟩
      | bool b => cases e; exact ⟨.base (.bl b), by decide⟩
      | int i => cases e; exact ⟨.base (.int i), by decide⟩
      | str x => cases e; exact ⟨.base (.str x), by decide⟩
      | list h1 h2 h3 => cases e; exact ⟨.base (.lst h1), by decide⟩
      | tuple h1 h2 => cases e; exact ⟨tup_ty h1, by decide⟩
      | dct _ _ => cases e
      | own _ _ _ => cases e
  | loc l =>
    unfold tyW at e
    cases q : S[l]? with
    | none => simp only [q] at e; cases e
    | some o =>
      cases o with
      | lst xs =>
        simp only [q] at e
        cases e
        obtain ⟨a, vs, rfl, _, h1, _⟩ := live_at q rp r
        exact ⟨.base (.lst h1), by decide⟩
      | dK _ => simp only [q] at e; cases e
      | dT _ => simp only [q] at e; cases e
  | tp ws =>
    cases e
    cases r with
    | tp h1 h2 => exact ⟨tup_ty h1, by decide⟩
  | fro ws =>
    cases e
    cases r with
    | fro h1 h2 =>
      rcases h1 with ⟨o, h⟩ | ⟨o, its, n, hk, hc, _⟩
      · exact ⟨.base (.frz h), by decide⟩
      · exact ⟨.kList hk hc, by decide⟩
def gIsi (T : String) (w : W) (S : Store) : O := (tyW w S).map fun t => (.d (.bool (isT t T)), S)
section
variable {X : Cx} {ct : Nat → Option Addr} {E : EX}
theorem i_isi (T : String) {x : Str} {e : Expr} {p p2 pos : Pos} {f : FE} (hT : T ∈ tys) (hg : Gl X "isinstance") (hm : X.mg "isinstance" = none) (hx : Gl X x) (hmx : X.mg x = none) (hv : bootBuiltins x = some (.type T)) (he : PE X e (tF (gx X ct) E f)) (hn : x ≠ "__name__" := by decide)
    (hd : (x == ("__debug__" : Str)) = false := by decide) (hs : starEach [e, .Name x p2] X.env = (false, eval e X.env) :: starEach [.Name x p2] X.env := by rfl) (hs2 : starEach [.Name x p2] X.env = (false, eval (.Name x p2) X.env) :: starEach [] X.env := by rfl) (hpl : (backTo pos (starEach [.Name x p2] X.env)).any (·.1) = false := by rfl)
    (hb : bootBuiltins "isinstance" = some (.builtin "isinstance") := by decide +kernel) : PE X (.Call (.Name "isinstance" p) [e, .Name x p2] [] pos) (tF (gx X ct) E (f1 (gIsi T) f)) :=
  PEw (pe_callB call_isi hg hm hb (pa_cons he (pa_cons (pe_bltn (v := .ty T) hx hmx hv rfl hn hd) pa_nil hs2) hs) (by decide) (by decide) hs hpl) fun σ H Q ⟨η, ρ, S, rp, er, h⟩ =>
    ⟨η, ρ, S, rp, er, FinR.mono (FinR.bind (rel := relW (gx X ct)) h) fun v H1 ⟨η1, w, S1, f1, rp1, r1, h1⟩ => by
      cases q : tyW w S1 with
      | none =>
        have h2 : FinP (gx X ct) (E σ) η1 H1 (lift (gIsi T w S1)) Q := h1
        unfold gIsi at h2
        rw [q] at h2
        exact h2.elim
      | some t =>
        have h2 : FinP (gx X ct) (E σ) η1 H1 (lift (gIsi T w S1)) Q := h1
        unfold gIsi at h2
        rw [q] at h2
        obtain ⟨ty, ht⟩ := tyW_ok q rp1 r1
        exact ⟨v, .ty T, .type t, .type T, isT t T, rfl, .ty T, ty, kit_ty ht hT, h2 η1 H1 _ (Fu.refl _ _) rp1 (.d (.bool _))⟩⟩
end
end VI
set_option Elab.async false
set_option linter.all false
set_option maxRecDepth 100000
namespace VI
open PySem PySem.Spec PyProof.Rows L2

/-! texts -/
section
variable {X : Cx} {ct : Nat → Option Addr} {E : EX}
/-- cut, of any of the three -/
def gSlA (a : W) (lo hi : Option Int) (S : Store) : O := match a with
  | .d (.str z) => if z.length ≤ lim then some (.d (.str (cutS z lo hi)), S) else none
  | a => gSl a lo hi S
theorem sl_all : SlR X (SimS X ct gSlA) := by
  intro pins s σ H x v vl vu lo hi sl Q I rx hs pl pu ⟨η, S, w, rp, r, h⟩
  unfold gSlA at h
  split at h
  · rename_i z
    split at h
    · rename_i hz
      cases r with
      | d r =>
        cases r
        exact sl_str pins s σ H _ v vl vu lo hi sl Q I rx hs pl pu ⟨z, rfl, lim_ok hz, same_val rp (.d (.str _)) h⟩
    · exact h.elim
  · exact sl_any pins s σ H x v vl vu lo hi sl Q I rx hs pl pu ⟨η, S, w, rp, r, h⟩
theorem i_slA {e : Expr} {lo hi : Option Expr} {fe : FE} {fl fh : FO} {pos p2 : Pos} (he : PE X e (tF (gx X ct) E fe)) (hl : PO X lo (tO (gx X ct) E fl)) (hu : PO X hi (tO (gx X ct) E fh)) : PE X (.Subscript e (.Slice lo hi none p2) pos) (tF (gx X ct) E (fSl gSlA fe fl fh)) :=
  PEw (pe_slice sl_all he hl hu) fun σ H Q ⟨η, ρ, S, rp, er, h⟩ =>
    ⟨η, ρ, S, rp, er, FinR.mono (FinR.bind h) fun v H1 ⟨η1, w, S1, f, rp1, r1, h1⟩ =>
      ⟨η1, ρ, S1, rp1, er.fu f, FinR.mono (FinR.bind h1) fun v2 H2 ⟨η2, l, S2, f2, rp2, r2, h2⟩ =>
        ⟨η2, ρ, S2, rp2, (er.fu f).fu f2, FinR.mono (FinR.bind h2) fun v3 H3 ⟨η3, u, S3, f3, rp3, r3, h3⟩ => by
          obtain rfl : v2 = l := r2
          obtain rfl : v3 = u := r3
          exact ⟨η3, S3, w, rp3, RepW.fu f3 _ _ (RepW.fu f2 _ _ r1), lift_ok h3⟩⟩⟩⟩
/-- in: a text within a text, a flat value in a sequence -/
def gInS (a b : W) (S : Store) : O := match a, b with
  | .d (.str i), .d (.str j) => some (.d (.bool (!(Builtin.Str.occurrences j i 0 j.length 1).isEmpty)), S)
  | _, _ => none
def gInA (a b : W) (S : Store) : O := match gInS a b S with
  | some o => some o
  | none => gIn false a b S
theorem sim_inS : OpR X (compareOp .In) (Sim2 X ct gInS) := OpR.fit op_in_str fun x y H Q ⟨η, S, wx, wy, rp, rx, ry, h⟩ => by
  unfold gInS at h
  split at h
  · cases rx with
    | d rx =>
      cases ry with
      | d ry =>
        cases rx
        cases ry
        exact ⟨_, _, rfl, rfl, same_val rp (.d (.bool _)) h⟩
  · exact h.elim
theorem sim_inA : OpR X (compareOp .In) (Sim2 X ct gInA) := OpR.orElse sim_inS sim_in
/-! methods of texts -/
def mSplit : GM := fun o ws S => match o, ws with
  | .d (.str a), [.d (.str b)] => if b.length ≠ 0 ∧ a.length + 2 ≤ lim then some (.d (.list ((Txt.split a b).map PyData.str)), S) else none
  | _, _ => none
theorem m_split : MtR X "str.split" (SimM X ct mSplit) := MtR.fit mt_split fun x xs H Q ⟨η, S, wx, ws, rp, rx, rr, h⟩ => by
  unfold mSplit at h
  split at h
  · rename_i a b
    obtain ⟨v, rfl, r⟩ := repWs1 rr
    cases rx with
    | d rx =>
      cases r with
      | d r =>
        cases rx
        cases r
        split at h
        · rename_i hz
          exact ⟨a, b, rfl, rfl, by simpa using hz.1, lim_ok hz.2, new_list rp (strs_rep _) h⟩
        · exact h.elim
  · exact h.elim
def fMethS (g : GM) (o : FE) (a : FA) : FE := fun ρ S => (o ρ S).bind fun ov S1 => match ov with
  | .d (.str z) => (a ρ S1).bind fun ws S2 => lift (g (.d (.str z)) ws S2)
  | _ => .bad
theorem i_methS {o e : Expr} {es : List Expr} {name : Str} {apos cpos : Pos} {id : String} {g : GM} {fo : FE} {fa : FA} (slot : Slot "str" name id) (hty : typeOf (.builtin id) = pure (.type "method_descriptor")) (hm : MtR X id (SimM X ct g)) (ho : PE X o (tF (gx X ct) E fo)) (ha : PA X (e :: es) (tA (gx X ct) E fa))
    (hbase : attributeBase o name X.env (eval o X.env) = eval o X.env := by rfl)
    (hfew : ((backTo cpos (starEach (e :: es) X.env)).all (fun x => !x.1) && (backToKw cpos (keywordEach [] X.env)).all (fun x => x.1.isSome)
      && decide ((e :: es).length + ([] : List Keyword).length + (if ([] : List Keyword).isEmpty then 0 else 1) < 30)) = true := by rfl)
    (hline : (apos.endLine == cpos.line) = true := by rfl) (hs : starEach (e :: es) X.env = (false, eval e X.env) :: starEach es X.env := by rfl) (hplain : (backTo cpos (starEach es X.env)).any (·.1) = false := by rfl) :
    PE X (.Call (.Attribute o name apos) (e :: es) [] cpos) (tF (gx X ct) E (fMethS g fo fa)) := PEw (pe_bm PySem.F.plainAttrs_str slot hty hm ho ha hbase hfew hline hs hplain) fun σ H Q ⟨η, ρ, S, rp, er, h⟩ =>
  ⟨η, ρ, S, rp, er, FinR.mono (FinR.bind (rel := relW (gx X ct)) h) fun v H1 ⟨η1, w, S1, f1, rp1, r1, h1⟩ => by
    split at h1
    · rename_i z
      have r0 := r1
      cases r1 with
      | d r1 =>
        cases r1
        exact ⟨rfl, η1, ρ, S1, rp1, er.fu f1, FinR.mono (FinR.bind (rel := relL (gx X ct)) h1) fun vs H2 ⟨η2, ws, S2, f2, rp2, r2, h2⟩ => ⟨η2, S2, _, ws, rp2, RepW.fu f2 _ _ r0, r2, lift_ok h2⟩⟩
    · exact h1.elim⟩
/-! a text walked -/
def sigW (z : Str) : List W := z.cps.toList.map fun c => W.d (.str ⟨#[c]⟩)
def wkStr (w : W) : Option Wk := match w with
  | .d (.str z) => some ⟨sigW z, fun _ => True⟩
  | _ => none
def fItStr (a : FE) : FK := fun ρ S => (a ρ S).bind fun w S1 => seqR (wkStr w) S1
theorem walk_str {K : PySem.W.Frag} {η : List Addr} {H : Hp} {z : Str} : WalkOk K ⟨sigW z, fun _ => True⟩ η H (Its z) where
  stop := fun η' H' S' f rp ok => by
    show z.cps.size ≤ (sigW z).length
    unfold sigW
    rw [List.length_map, Array.length_toList]
    exact Nat.le_refl _
  go := fun η' H' S' i w f rp ok e => by
    have e' : (sigW z)[i]? = some w := e
    unfold sigW at e'
    rw [List.getElem?_map, Array.getElem?_toList] at e'
    cases q : z.cps[i]? with
    | none => rw [q] at e'; cases e'
    | some c =>
      rw [q] at e'
      have ew : W.d (.str ⟨#[c]⟩) = w := Option.some.inj e'
      subst ew
      refine ⟨(Array.getElem?_eq_some_iff.mp q).1, fun y H'' yl => ?_⟩
      obtain ⟨rfl, c', q', rfl⟩ := yl
      rw [q] at q'
      cases q'
      exact ⟨Fu.refl _ _, rp, .d (.str _)⟩
theorem w_str {tg e : Expr} {f : FE} (he : PE X e (tF (gx X ct) E f)) : PI X tg e (tI (gx X ct) E (fItStr f)) := PIw (pi_str he) fun σ H R ⟨η, ρ, S, rp, er, h⟩ =>
  ⟨η, ρ, S, rp, er, FinR.mono (FinR.bind (rel := relW (gx X ct)) h) fun v H1 ⟨η1, w, S1, f1, rp1, r1, h1⟩ => by
    obtain ⟨x, e1, h2⟩ := seqR_fin h1
    unfold wkStr at e1
    split at e1
    · cases e1
      cases r1 with
      | d r1 => cases r1; exact ⟨_, rfl, h2 η1 H1 _ (Fu.refl _ _) rp1 walk_str⟩
    · cases e1⟩
end
end VI
namespace VI
open PySem PySem.Spec PyProof.Rows L2
section
variable {X : Cx} {ct : Nat → Option Addr}
/-- f() -/
theorem cCall0 {k n : Nat} {x : Str} {ps : List Str} {g : List W → Store → R W} {p pos : Pos} (C : Callee X.prog X.w X.K X.mg X.base ct k x ps g) (hr : Room k X.A) (hgd : X.A.guards = some []) (hn : ps.length = n := by rfl) (hn0 : n = 0 := by rfl) (hg : Gl X x := by rfl) (hdb : (x == ("__debug__" : Str)) = false := by decide) :
    PE X (.Call (.Name x p) [] [] pos) (tF (gx X ct) NX (fCall n g fA0)) := by
  obtain ⟨f, fd, F, m, kp, b⟩ := C
  subst hn
  refine PEw (pe_callG0 F hr hgd hg m kp b pass0 hdb) fun σ H Q ⟨η, ρ, S, rp, er, h⟩ => ?_
  have h1 : FinP (gx X ct) E0 η H (if ([] : List W).length = ps.length then frz S.length (g [] S) else .bad) Q := h
  rw [if_pos (by rw [hn0]; rfl)] at h1
  exact ⟨by rw [hn0]; rfl, η, S, [], rp, .nil, FinR.frz rp h1⟩
theorem cCall0L {k n : Nat} {x : Str} {ps : List Str} {g : List W → Store → R W} {p pos : Pos} (C : Callee X.prog X.w X.K X.mg X.base ct k x ps g) (hr : Room k X.A) (hgd : X.A.guards = some []) (hn : ps.length = n := by rfl) (hn0 : n = 0 := by rfl) (hg : Gl X x := by rfl) (hdb : (x == ("__debug__" : Str)) = false := by decide) :
    PE X (.Call (.Name x p) [] [] pos) (tF (gx X ct) NX (fCallL n g fA0)) := by
  obtain ⟨f, fd, F, m, kp, b⟩ := C
  subst hn
  refine PEw (pe_callG0 F hr hgd hg m kp b pass0 hdb) fun σ H Q ⟨η, ρ, S, rp, er, h⟩ => ?_
  have h1 : FinP (gx X ct) E0 η H (if ([] : List W).length = ps.length then g [] S else .bad) Q := h
  rw [if_pos (by rw [hn0]; rfl)] at h1
  exact ⟨by rw [hn0]; rfl, η, S, [], rp, .nil, h1⟩
end
end VI
namespace VI
open PySem PySem.Spec PyProof.Rows L2
/-- a, b, c = e1, e2, e3 -/
def fPar3 (i j k : Nat) (a : FA) : FS := fun ρ S => toS ρ (a ρ S) fun ws S1 => match ws with
  | [u, v, w] => .next (((ρ.set i (some u)).set j (some v)).set k (some w)) S1
  | _ => .bad
theorem s_par3 {X : Cx} {ct : Nat → Option Addr} {E : EX} (i j l : Nat) {x y z : Str} {a b c : Expr} {fa : FA} {px py pz pt pos : Pos} {kt k2 : Nat} {pt2 : Pos} (hc : X.calm = true) (hN : X.N.Nodup) (hij : i ≠ j) (hil : i ≠ l) (hjl : j ≠ l) (ha : PA X [a, b, c] (tA (gx X ct) E fa))
    (hi : X.N[i]? = some x := by rfl) (hj : X.N[j]? = some y := by rfl) (hl : X.N[l]? = some z := by rfl) (hx : X.env.scope.names.lookup x = some .local := by rfl) (hy : X.env.scope.names.lookup y = some .local := by rfl) (hz : X.env.scope.names.lookup z = some .local := by rfl)
    (hw : swappedStores [.Tuple [.Name x px, .Name y py, .Name z pz] kt pt] (.Tuple [a, b, c] k2 pt2) X.env = pure (some [x, y, z]) := by rfl)
    (hs : swapsWithSole [.Tuple [.Name x px, .Name y py, .Name z pz] kt pt] (.Tuple [a, b, c] k2 pt2) pos.line X.env = pure false := by rfl) :
    PS X (.Assign [.Tuple [.Name x px, .Name y py, .Name z pz] kt pt] (.Tuple [a, b, c] k2 pt2) pos) (tS (gx X ct) E (fPar3 i j l fa)) := PSw (ps_par3 hc hN hi hj hl hij hil hjl hx hy hz ha hw hs) fun D σ H ⟨η, ρ, S, rp, er, h⟩ =>
  ⟨η, ρ, S, rp, er, FinR.mono (FinS.bind er h) fun vs H1 ⟨η1, ws, S1, f1, rp1, r1, h1⟩ => by
    split at h1
    · rename_i u v w
      obtain ⟨v1, v2, v3, rfl, r2, r3, r4⟩ := repWs3 r1
      exact ⟨v1, v2, v3, rfl, h1 η1 H1 _ (Fu.refl _ _) rp1 ((((er.fu f1).set r2).set r3).set r4)⟩
    · exact h1.elim⟩
end VI
set_option Elab.async false
set_option linter.all false
set_option maxRecDepth 100000
namespace VI
open PySem PySem.Spec PyProof.Rows L2

/-! calls where something may be raised -/
section
variable {X : Cx} {ct : Nat → Option Addr} {CX : CXT} {k : Nat} {E : EX}
theorem run_E {f : Addr} {fd : FuncData} {ps : List Str} {sp : Sp} {pins : List (Addr × Obj)} {σ : L2.St} {H : Hp} {s : Shared} {Q : VK} {us : List Value} {vs : List V} {Z : XK} (F : FnG X.prog X.w X.K X.mg X.base CX k f fd ps sp) (room : Room k X.A) (gd : X.A.guards = some []) (bn : Binds X.K fd ps []) (px : PassesAt CX X σ Z)
    (inv : Inv X pins σ H s) (rel : Vals vs us) (pre : sp vs H Q Z) : wpAny (model X.prog X.w) X.A (call (.ref f) us) (EP X pins σ Q) X.xe s := by
  have ln : us.length = ps.length := rel.length.symm.trans (F.len _ _ _ _ pre)
  have bs := bn s us inv.kIn (by rw [List.append_nil]; exact ln)
  rw [List.append_nil] at bs
  refine wpAny_call (codeAny_mono (F.run X.A X.stack s H ⟨us, []⟩ us vs Q Z room gd inv.env0 bs rel pre) fun res t hres => ?_)
  cases res with
  | error er => exact px pins H s er t inv hres
  | ok fl =>
    cases fl with
    | ret u => exact inv.after hres
    | next => exact hres.elim
    | brk => exact hres.elim
    | cont => exact hres.elim
/-- a def of the module that may raise as CX says -/
def CalleeC (CX : CXT) (P : Program) (w : World) (K : PySem.W.Frag) (mg : Str → Option Value) (base : Heap) (ct : Nat → Option Addr) (k : Nat) (x : Str) (ps : List Str) (g : List W → Store → R W) : Prop :=
  ∃ (f : Addr) (fd : FuncData), FnG P w K mg base CX k f fd ps (spG ⟨K, ct⟩ ps.length g) ∧ mg x = some (.ref f) ∧ PySem.W.keepIn K (.ref f) = true ∧ Binds K fd ps []
theorem pass0E {σ : L2.St} {Z : XK} : PassesAt CX0 X σ Z := fun _ _ _ _ _ _ h => h.elim
variable {n : Nat} {x : Str} {ps : List Str} {g : List W → Store → R W} {p pos : Pos} {e : Expr} {es : List Expr} {fa : FA}
theorem cCallE (C : CalleeC CX X.prog X.w X.K X.mg X.base ct k x ps g) (px : ∀ σ, PassesAt CX X σ (E σ)) (room : Room k X.A) (gd : X.A.guards = some []) (ha : PA X (e :: es) (tA (gx X ct) E fa)) (hn : ps.length = n := by rfl) (hg : Gl X x := by rfl) (hdb : (x == ("__debug__" : Str)) = false := by decide)
    (he : starEach (e :: es) X.env = (false, eval e X.env) :: starEach es X.env := by rfl) (hpl : (backTo pos (starEach es X.env)).any (·.1) = false := by rfl) : PE X (.Call (.Name x p) (e :: es) [] pos) (tF (gx X ct) E (fCall n g fa)) := by
  obtain ⟨f, fd, F, m, kp, bn⟩ := C
  subst hn
  refine ⟨fun pins s σ H Q inv ⟨η, ρ, S, rp, er, h⟩ => ?_⟩
  refine wpAny_Call_Name_kw (ld_glob inv hg m ?_ hdb)
  refine PySem.W.callWith_K (h₀ := X.base) inv.ok.mod.kin kp (thn (ha.run pos pins s σ H _ inv ⟨η, ρ, S, rp, er, FinR.bind (rel := relL (gx X ct)) h⟩) fun us s1 ⟨vs, H1, inv1, rel, η1, ws, S1, f1, rp1, r1, h1⟩ => ⟨inv1.kIn, ?_⟩) he hpl
  have h2 : FinP (gx X ct) (E σ) η1 H1 (if ws.length = ps.length then frz S1.length (g ws S1) else .bad) Q := h1
  by_cases hw : ws.length = ps.length
  · rw [if_pos hw] at h2
    exact run_E F room gd bn (px σ) inv1 rel ⟨by rw [← r1.length]; exact hw, η1, S1, ws, rp1, r1, FinR.frz rp1 h2⟩
  · rw [if_neg hw] at h2
    exact h2.elim
end

/-! a def that may raise -/
def toRX : RF → R W
  | .next _ S => .ok (.d .none) S
  | .ret w S => .ok w S
  | .exc c fs _ S => .exc c fs S
  | _ => .bad
def runX (n : Nat) (b : FS) (ws : List W) (S : Store) : R W := toRX (b (startR n ws) S)
section
variable {P : Program} {w : World} {K : PySem.W.Frag} {mg : Str → Option Value} {base : Heap} {ct : Nat → Option Addr}
abbrev bodyE (P : Program) (w : World) (K : PySem.W.Frag) (mg : Str → Option Value) (base : Heap) (N : List Str) (qual : Str) (scope : Scope) (f : Addr) (cd : Value) (A : Around) (outer : List Env) (s : Shared) (H : Hp) (E : XK) : Cx :=
  cxOf (L2.CX P w) P w K mg base N qual scope f cd A outer s H E
theorem fnX_of {k : Nat} {f : Addr} {name qual : Str} {pr : Arguments} {body : List Stmt} {sc : Scope} {dV kV doc pm cdv ctv oc : Value} {an od : Option Addr} {sl : Array (Option Value)} {N ps : List Str} {g : List W → Store → R W}
    (lk : K.lookup f = some ⟨oc, od, .func (PySem.W.fnOf name qual pr body sc dV kV doc pm an cdv ctv), sl⟩) (hcd : PySem.W.codeIn K cdv qual = true) (hS : FnScope N ps sc)
    (hb : ∀ (A : Around) (outer : List Env) (s : Shared) (H : Hp) (E : XK), Room k (A.deeper (envOfC qual sc s.heap.objs.size f cdv)) → A.guards = some [] → ∃ b : FS, (∀ ws S, ws.length = ps.length → g ws S = runX N.length b ws S) ∧
      PSs (bodyE P w K mg base N qual sc f cdv A outer s H E) body (tS ⟨K, ct⟩ (fun _ => E) b)) :
    FnG P w K mg base (L2.CX P w) (k + 1) f (PySem.W.fnOf name qual pr body sc dV kV doc pm an cdv ctv) ps (spG ⟨K, ct⟩ ps.length g) where
  len := fun vs H Q E h => h.1
  run := by
    intro A outer s H args us vs Q E room gd env bnd rel ⟨hlen, η, S, ws, rp, rr, fin⟩
    have hin : K.In s.heap := env.mod.kin.keeps fun c o z => (env.bs c o z).1
    have nolim : s.heap.NoLimit := env.mod.nolimit.keeps fun c o z => (env.bs c o z).1
    have kinds : ∀ p ∈ ps.zip us, sc.names.lookup p.1 = some .local ∨ (sc.names.lookup p.1 = some .cell ∧ ((cellsFrom (s.heap.objs.size + 1) sc.names []).lookup p.1).isSome = true) := by
      rintro ⟨m, u⟩ hm
      rcases hS.par m (List.of_mem_zip hm).1 with z | z
      · exact Or.inl z
      · exact Or.inr ⟨z, PySem.W.cellsFrom_some _ _ _ (Or.inl z)⟩
    refine codeAny_call_function room.depth (hin _ _ lk) rfl hS.co hS.gen rfl (PySem.W.codeRec_of hin hcd) (bnd _ _ _ _ ?_)
    refine wpAny_newFunctionEnv_cells hS.kind kinds fun en hen t1 tx => ?_
    subst hen
    refine ⟨nolim.keeps tx.toInCall.keep, codeAny_func ?_⟩
    obtain ⟨b, eqb, hbody⟩ := hb A outer s H E (room.deeper _) gd
    have inv0 := inv_start (CX := L2.CX P w) (E := E) hS room.hd env hlen rel tx
    have wl : ws.length = ps.length := by rw [rr.length]; exact hlen
    rw [eqb ws S wl] at fin
    have pre : tS ⟨K, ct⟩ (fun _ => E) b { nx := fun _ H' => Q .non H', rt := Q } (L2.start N vs) H := by
      refine ⟨η, startR N.length ws, S, rp, start_rep rr, ?_⟩
      unfold runX at fin
      cases eb : b (startR N.length ws) S with
      | next ρ2 S2 => rw [eb] at fin; exact fun η2 H2 σ2 f2 rp2 er2 => fin η2 H2 .non f2 rp2 (.d .none)
      | ret u S2 => rw [eb] at fin; exact fin
      | brk ρ2 S2 => rw [eb] at fin; exact fin.elim
      | cnt ρ2 S2 => rw [eb] at fin; exact fin.elim
      | exc c fs ρ2 S2 => rw [eb] at fin; exact fun η2 H2 σ2 C d us f2 rp2 er2 hc hd hf => fin η2 H2 C d us f2 rp2 hc hd hf
      | bad => rw [eb] at fin; exact fin.elim
    refine wpAny_mono (hbody.run [] t1 (L2.start N vs) H _ inv0 pre) (fun fl t2 hf => ?_) fun e t2 hf => hf
    cases fl with
    | ret u =>
      obtain ⟨v, σ2, H2, J, rv, q⟩ := hf
      exact ⟨v, H2, J.os, J.bare, J.base, J.hok, rv, q⟩
    | next =>
      obtain ⟨σ2, H2, J, q⟩ := hf
      exact ⟨V.non, H2, J.os, J.bare, J.base, J.hok, rfl, q⟩
    | brk => exact False.elim (let ⟨_, _, _, q⟩ := hf; q)
    | cont => exact False.elim (let ⟨_, _, _, q⟩ := hf; q)
end

/-! raise C(..), C an own class over ValueError whose __init__ puts its arguments in fields -/
/-- what C(e1, .., en) comes to: an exception with these fields -/
def tMkF (C : Addr) (fs : List Str) (ta : TA) : L2.St → Hp → XK → Prop := fun σ H Q => ta σ H fun vs H1 => vs.length = fs.length ∧ ∀ d, H1 d = none → Q (.ref C) (some d) (upd H1 d (.xd (fs.zip vs).reverse))
def fRaise (c : Nat) (fs : List Str) (a : FA) : FS := fun ρ S => toS ρ (a ρ S) fun ws S1 => if ws.length = fs.length then .exc c (fs.zip ws).reverse ρ S1 else .bad
theorem s_raise {X : Cx} {ct : Nat → Option Addr} {E : EX} {W0 : WX} {e : Expr} {pos : Pos} {c : Nat} {C : Addr} {fs : List Str} {fa : FA} (hc : X.calm = true) (tk : Takes X W0) (hE : ∀ σ cls d H, E σ cls d H → W0 cls d σ H) (hct : ct c = some C) {ta : TA} (he : PMk X e (tMkF C fs ta)) (hta : ∀ σ H Q, tA (gx X ct) E fa σ H Q → ta σ H Q) :
    PS X (.Raise (some e) none pos) (tS (gx X ct) E (fRaise c fs fa)) := PSw (ps_raise hc tk he) fun D σ H ⟨η, ρ, S, rp, er, h⟩ =>
  hta σ H _ ⟨η, ρ, S, rp, er, FinR.mono (FinS.bind (rel := relL (gx X ct)) er h) fun vs H1 ⟨η1, ws, S1, f1, rp1, r1, h1⟩ => by
    have h2 : FinS (gx X ct) E η1 H1 (if ws.length = fs.length then .exc c (fs.zip ws).reverse ρ S1 else .bad) D := h1
    by_cases hw : ws.length = fs.length
    · rw [if_pos hw] at h2
      refine ⟨by rw [← r1.length]; exact hw, fun d hd => hE _ _ _ _ ?_⟩
      have fn := fu_new (η := η1) (o := .xd (fs.zip vs).reverse) hd
      have lv : vs.length = fs.length := by rw [← r1.length]; exact hw
      refine h2 η1 _ σ C d _ fn (rp1.new hd) ((er.fu f1).fu fn) hct upd_same ⟨?_, ?_⟩
      · rw [List.map_reverse, List.map_reverse, List.map_fst_zip (by omega), List.map_fst_zip (by omega)]
      · rw [List.map_reverse, List.map_reverse, List.map_snd_zip (by omega), List.map_snd_zip (by omega)]
        exact RepWs.reverse (RepWs.fu fn _ _ r1)
    · rw [if_neg hw] at h2
      exact h2.elim⟩
end VI
set_option Elab.async false
set_option linter.all false
set_option maxRecDepth 100000
namespace VI
open PySem PySem.Spec PyProof.Rows L2

/-! own exception classes: __init__ puts its arguments in fields -/
def spInit (C : Addr) (fs : List Str) : Sp := fun vs H Q _ => ∃ (a : Addr) (us : List V), vs = .ref a :: us ∧ us.length = fs.length ∧ H a = some (exo a C none) ∧ ∀ dx, H dx = none → dx ≠ a → Q .non (upd (upd H dx (exd dx (fs.zip us).reverse)) a (exo a C (some dx)))
section
variable {P : Program} {w : World} {K : PySem.W.Frag} {mg : Str → Option Value} {base : Heap} {k : Nat} {C fI : Addr} {fd : FuncData} {qual : Str} {pr : Arguments} {body : List Stmt} {sc : Scope} {f1 f2 p1 p2 : Str}
theorem init_one (F : FunD K "__init__" qual pr body sc [] [] fI fd) (hS : FnScope ["self", p1] ["self", p1] sc) (T : OexC K C) (no1 : PySem.W.findIn K (.ref C) f1 = some none)
    (hb : ∀ (cdv : Value) (A : Around) (outer : List Env) (s : Shared) (H : Hp) (E : XK), PSs (cxOf CX0 P w K mg base ["self", p1] qual sc fI cdv A outer s H E) body (tOst K f1 (tVar 0) (tVar 1))) :
    FnOk P w K mg base CX0 (k + 1) fI fd ["self", p1] (spInit C [f1]) := by
  refine FunD.ok F hS (fun vs H Q E h => ?_) fun cdv A outer s H vs Q E hr h => ?_
  · obtain ⟨a, us, rfl, hl, _⟩ := h
    rw [List.length_cons, hl]
    rfl
  · obtain ⟨a, us, rfl, hl, ha, q⟩ := h
    match us, hl with
    | [y], _ =>
      refine ⟨_, hb cdv A outer s H E, ?_⟩
      exact ⟨y, rfl, .ref a, rfl, a, C, rfl, T, no1, .inl ⟨ha, fun dx hd ne => q dx hd ne⟩⟩
theorem init_two (F : FunD K "__init__" qual pr body sc [] [] fI fd) (hS : FnScope ["self", p1, p2] ["self", p1, p2] sc) (T : OexC K C) (no1 : PySem.W.findIn K (.ref C) f1 = some none) (no2 : PySem.W.findIn K (.ref C) f2 = some none)
    (hb : ∀ (cdv : Value) (A : Around) (outer : List Env) (s : Shared) (H : Hp) (E : XK), PSs (cxOf CX0 P w K mg base ["self", p1, p2] qual sc fI cdv A outer s H E) body (tSeq (tOst K f1 (tVar 0) (tVar 1)) (tOst K f2 (tVar 0) (tVar 2)))) :
    FnOk P w K mg base CX0 (k + 1) fI fd ["self", p1, p2] (spInit C [f1, f2]) := by
  refine FunD.ok F hS (fun vs H Q E h => ?_) fun cdv A outer s H vs Q E hr h => ?_
  · obtain ⟨a, us, rfl, hl, _⟩ := h
    rw [List.length_cons, hl]
    rfl
  · obtain ⟨a, us, rfl, hl, ha, q⟩ := h
    match us, hl with
    | [y, z], _ =>
      refine ⟨_, hb cdv A outer s H E, ?_⟩
      refine ⟨y, rfl, .ref a, rfl, a, C, rfl, T, no1, .inl ⟨ha, fun dx hd ne => ?_⟩⟩
      refine ⟨z, rfl, .ref a, rfl, a, C, rfl, T, no2, .inr ⟨dx, [(f1, y)], upd_same, ?_, by show 1 ≤ 900; decide, ?_⟩⟩
      · rw [upd_ne ne, upd_same]
      · have e : upd (upd (upd H dx (exd dx [(f1, y)])) a (exo a C (some dx))) dx (exd dx [(f2, z), (f1, y)]) = upd (upd H dx (exd dx [(f2, z), (f1, y)])) a (exo a C (some dx)) := by
          funext b
          by_cases h1 : b = dx
          · subst h1; rw [upd_same, upd_ne ne, upd_same]
          · rw [upd_ne h1]
            by_cases h2 : b = a
            · subst h2; rw [upd_same, upd_same]
            · rw [upd_ne h2, upd_ne h2, upd_ne h1, upd_ne h1]
        show Q .non _
        rw [e]
        exact q dx hd ne
end
/-- the class x at C, its fields fs -/
structure OwnX (P : Program) (w : World) (K : PySem.W.Frag) (mg : Str → Option Value) (base : Heap) (k : Nat) (x : Str) (C : Addr) (fs : List Str) : Prop where
  at_ : mg x = some (.ref C)
  T : OexC K C
  init : ∃ (fI : Addr) (fd : FuncData) (ps : List Str), PySem.W.findIn K (.ref C) "__init__" = some (some (.ref fI)) ∧ PySem.W.typeIn K (.ref fI) = some (.type "function") ∧ FnOk P w K mg base CX0 k fI fd ps (spInit C fs) ∧ Binds K fd ps []
theorem pmk_F {X : Cx} {ct : Nat → Option Addr} {E : EX} {k : Nat} {x : Str} {C : Addr} {fs : List Str} {e : Expr} {es : List Expr} {p pos : Pos} {fa : FA} (O : OwnX X.prog X.w X.K X.mg X.base k x C fs) (hr : Room (k + 1) X.A) (hn : fs.length ≤ 1000) (ha : PA X (e :: es) (tA (gx X ct) E fa)) (hg : Gl X x := by rfl)
    (hdb : (x == ("__debug__" : Str)) = false := by decide) (he : starEach (e :: es) X.env = (false, eval e X.env) :: starEach es X.env := by rfl) (hpl : (backTo pos (starEach es X.env)).any (·.1) = false := by rfl) :
    PMk X (.Call (.Name x p) (e :: es) [] pos) (tMkF C fs (tA (gx X ct) E fa)) := by
  obtain ⟨m, T, fI, fd, ps, iC, tI, F1, bn⟩ := O
  have base := pmk_oex (p := p) (ds := []) (dvs := []) T iC tI F1 hr bn .nil pass0 hg m ha hdb he hpl
  intro pins s σ H Q I ⟨η, ρ, S, rp, er, h⟩
  refine base pins s σ H Q I ⟨η, ρ, S, rp, er, FinR.mono h fun vs H1 ⟨hl, q⟩ => ?_⟩
  refine ⟨by rw [hl]; exact hn, fun a ha => ⟨a, vs, by rw [List.append_nil], hl, upd_same, fun dx hd ne => ?_⟩⟩
  have hd1 : H1 dx = none := by rw [upd_ne ne] at hd; exact hd
  refine ⟨rfl, dx, (fs.zip vs).reverse, upd_same, ?_, hd1, ?_⟩
  · rw [upd_ne ne, upd_same]
  · have e : upd (del (upd (upd (upd H1 a (exo a C none)) dx (exd dx (fs.zip vs).reverse)) a (exo a C (some dx))) a) dx (.xd (fs.zip vs).reverse) = upd H1 dx (.xd (fs.zip vs).reverse) := by
      funext b
      by_cases h1 : b = dx
      · subst h1; rw [upd_same, upd_same]
      · rw [upd_ne h1, upd_ne h1]
        by_cases h2 : b = a
        · subst h2; rw [del_same, ha]
        · rw [del_ne h2, upd_ne h2, upd_ne h1, upd_ne h2]
    rw [e]
    exact q dx hd1
theorem s_raiseC {X : Cx} {ct : Nat → Option Addr} {E : EX} {W0 : WX} {k c : Nat} {x : Str} {C : Addr} {fs : List Str} {e : Expr} {es : List Expr} {p pos pos2 : Pos} {fa : FA} (hc : X.calm = true) (tk : Takes X W0) (hE : ∀ σ cls d H, E σ cls d H → W0 cls d σ H) (hct : ct c = some C) (O : OwnX X.prog X.w X.K X.mg X.base k x C fs)
    (hr : Room (k + 1) X.A) (hn : fs.length ≤ 1000) (ha : PA X (e :: es) (tA (gx X ct) E fa)) (hg : Gl X x := by rfl) (hdb : (x == ("__debug__" : Str)) = false := by decide) (he : starEach (e :: es) X.env = (false, eval e X.env) :: starEach es X.env := by rfl) (hpl : (backTo pos (starEach es X.env)).any (·.1) = false := by rfl) :
    PS X (.Raise (some (.Call (.Name x p) (e :: es) [] pos)) none pos2) (tS (gx X ct) E (fRaise c fs fa)) :=
  s_raise hc tk hE hct (pmk_F (ct := ct) (E := E) O hr hn ha hg hdb he hpl) fun _ _ _ h => h
end VI
set_option Elab.async false
set_option linter.all false
set_option maxRecDepth 100000
namespace VI
open PySem PySem.Spec PyProof.Rows L2

/-! try with several clauses, each with a name or without -/
/-- a clause as it is read: its class, its slot if it gives a name, its suite -/
structure Cl where
  c : Value
  slot : Option Nat
  ts : Addr → Value → Option Addr → TS
def endsBy (D : Ends) : Option Nat → Ends
  | none => D
  | some i => { nx := fun σ H => D.nx (σ.set i none) H, rt := D.rt, bk := fun σ H => D.bk (σ.set i none) H, ct := fun σ H => D.ct (σ.set i none) H }
def slotBy (σ : L2.St) (a : Addr) : Option Nat → L2.St
  | none => σ
  | some i => σ.set i (some (.ref a))
def wMix (K : PySem.W.Frag) (Wout : WX) (D : Ends) : List Cl → WX
  | [] => Wout
  | k :: r => fun cls d σ H => ∃ b, PySem.W.exmOne K cls k.c = some b ∧ (b = true → ∀ a, H a = none → k.ts a cls d (endsBy D k.slot) (slotBy σ a k.slot) H) ∧ (b = false → wMix K Wout D r cls d σ H)
inductive ClsOk (X : Cx) : List ExceptHandler → List Cl → Prop
  | nil : ClsOk X [] []
  | plain {x : Str} {c : Value} {ts : Addr → Value → Option Addr → TS} {b0 : Stmt} {suite : List Stmt} {np q : Pos} {hds : List ExceptHandler} {l : List Cl} (hc : Names X x c)
      (hsu : ∀ (a : Addr) (oe : Obj) (cls : Value) (d : Option Addr) (pn : List (Addr × Obj)), Zc cls d oe → (∃ vs, oe.data = .fields vs) → PSs (X.suite a ((a, oe) :: pn)) (b0 :: suite) (ts a cls d)) (r : ClsOk X hds l) :
      ClsOk X (.ExceptHandler (some (.Name x np)) none (b0 :: suite) q :: hds) (⟨c, none, ts⟩ :: l)
  | named {x y : Str} {c : Value} {i : Nat} {ts : Addr → Value → Option Addr → TS} {b0 : Stmt} {suite : List Stmt} {np q : Pos} {hds : List ExceptHandler} {l : List Cl} (hc : Names X x c) (hN : X.N.Nodup) (hi : X.N[i]? = some y) (hy : X.env.kindOf y = some .local)
      (hsu : ∀ (a : Addr) (oe : Obj) (cls : Value) (d : Option Addr) (pn : List (Addr × Obj)), Zc cls d oe → (∃ vs, oe.data = .fields vs) → PSs (X.suite a ((a, oe) :: pn)) (b0 :: suite) (ts a cls d)) (r : ClsOk X hds l) :
      ClsOk X (.ExceptHandler (some (.Name x np)) (some y) (b0 :: suite) q :: hds) (⟨c, some i, ts⟩ :: l)
section
variable {X : Cx} {body : List Stmt} {h0 : ExceptHandler} {hds : List ExceptHandler} {l : List Cl} {pos : Pos} {tb : WX → TS} {Wout : WX}
/-- an exception that has landed at a, the clauses left -/
theorem mix_go (hs : X.stack = X.env :: X.outer) (hf : X.env.frame = some X.env.locals) (tk : Takes X Wout) {pins : List (Addr × Obj)} {D : Ends} {B : Heap} {sI s' : Shared} {a : Addr} {σ' : L2.St} {H' : Hp} {cls : Value} {d : Option Addr} {h3 : Heap} (ok : X.Ok)
    (J : Inv X pins σ' H' sI) (nb : ∀ b o, sI.heap.get? b = some o → b ∉ frs X.stack → B.get? b = some o) (up : sI.heap.UpToSlots s'.heap) (up3 : s'.heap.UpToSlots h3) (na : H' a = none) (os : s'.os = sI.os) (ag : AllBare s'.gens)
    (nL : a ≠ X.env.locals) (nF : a ∉ X.fs) (fl3 : HandSPX.FlyingZ B (X.env :: X.outer) a (Zc cls d) h3) :
    ∀ {cs : List ExceptHandler} {m : List Cl}, ClsOk X cs m → wMix X.K Wout D m cls d σ' H' → wpAny (model X.prog X.w) X.A (handleBy (.ref a) X.env cs) (SP X pins D) X.xe { s' with heap := h3 } := by
  have J3 : Inv X pins σ' H' { s' with heap := h3 } := J.landed nb fl3.1 (up.trans up3) os ag
  obtain ⟨oe3, vs3, he3, hz3, hd3⟩ := fl3.there
  have S3 := J3.suite he3 hd3 na nL nF
  have asked : ∀ {x : Str} {c : Value} {np : Pos} {Q : Value → Shared → Prop} {E : Value → Shared → Prop}, Names X x c → Q c { s' with heap := h3 } → wpAny (model X.prog X.w) (X.A.mark (some (.ref a))) (eval (.Name x np) X.env) Q E { s' with heap := h3 } := fun {x c np Q E} hc q => by
    obtain ⟨g1, g2, g3 | ⟨g3, g4, g5⟩⟩ := hc
    · exact ld_glob (X := X.suite a ((a, oe3) :: (X.pn ++ pins))) S3 g1 g3 q g2
    · exact ld_blt (X := X.suite a ((a, oe3) :: (X.pn ++ pins))) S3 g1 g3 g4 q g5 g2
  have looks : ∀ {c : Value} {b : Bool}, PySem.W.exmOne X.K cls c = some b → _ := fun {c b} e => PySem.W.exm_one (M := model X.prog X.w) J3.kIn (show PySem.W.Looks (model X.prog X.w) h3 (typeOf (.ref a)) cls from fun A Q E s k q => wpAny_typeOf_ref (k _ _ he3) (by rw [hz3.1]; exact q)) e
  intro cs m hk
  induction hk with
  | nil =>
    intro w
    refine wpAny_handleBy_nil ?_
    obtain ⟨_, _, _, oe, vs, T, _, _, he, _, hd, h1, _⟩ := id fl3
    unfold PySem.passOn
    refine wpAny_bind (wpAny_field he hd h1 ?_)
    rw [if_neg (show ¬ ((Value.ref T == Value.none) = true) from by simp)]
    have again : wpAny (model X.prog X.w) X.A (setFlight (.ref a) X.env.frame) (fun _ s4 => wpAny (model X.prog X.w) X.A (throw (.ref a) : Sem Flow) (SP X pins D) X.xe s4) X.xe { s' with heap := h3 } := by
      rw [hf]
      exact HandSPX.setFlight_upZ fl3 fun h4 hh4 up4 => wpAny_throw (tk _ _ ⟨a, B, sI, pins, σ', H', cls, d, rfl, J, nb, (up.trans up3).trans up4, .inr (.inr (by rw [hs]; exact hh4)), na, os, ag, w⟩)
    first
      | exact wpAny_bind (wpAny_pure (wpAny_bind again))
      | exact wpAny_bind again
  | plain hc hsu _ ih =>
    rintro ⟨b, e, yes, no⟩
    refine wpAny_handleBy_cons (codeAny_handlers_test ?_) (by intro z; cases z)
    refine asked hc ((looks e).here ?_)
    cases b with
    | false => exact ih (no rfl)
    | true =>
      refine codeAny_handlers_suite (HandSPX.lands_againZ fl3 fun h4 fl4 up4 => ?_)
      have J4 : Inv X pins σ' H' { s' with heap := h4 } := J.landed nb fl4.1 ((up.trans up3).trans up4) os ag
      obtain ⟨oe4, vs4, he4, hz4, hd4⟩ := fl4.there
      refine wpAny_mono ((hsu a oe4 cls d (X.pn ++ pins) hz4 ⟨_, hd4⟩).run [] _ _ H' _ (J4.suite he4 hd4 na nL nF) (yes rfl a na)) (fun f s6 hsp => ?_) fun _ _ z => z.elim
      cases f with
      | next => obtain ⟨σ6, H6, S6, q6⟩ := hsp; exact ⟨_, _, S6.unsuite ok, q6⟩
      | brk => obtain ⟨σ6, H6, S6, q6⟩ := hsp; exact ⟨_, _, S6.unsuite ok, q6⟩
      | cont => obtain ⟨σ6, H6, S6, q6⟩ := hsp; exact ⟨_, _, S6.unsuite ok, q6⟩
      | ret u => obtain ⟨v6, σ6, H6, S6, r6, q6⟩ := hsp; exact ⟨_, _, _, S6.unsuite ok, r6, q6⟩
  | @named x y c i ts b0 suite np q hds l hc hN hi hy hsu _ ih =>
    rintro ⟨b, e, yes, no⟩
    refine wpAny_handleBy_cons (codeAny_handlers_test ?_) (by intro z; cases z)
    refine asked hc ((looks e).here ?_)
    cases b with
    | false => exact ih (no rfl)
    | true =>
      refine codeAny_handlers_suite_as (HandSPX.lands_againZ fl3 fun h4 fl4 up4 => ?_)
      have J4 : Inv X pins σ' H' { s' with heap := h4 } := J.landed nb fl4.1 ((up.trans up3).trans up4) os ag
      obtain ⟨oe4, vs4, he4, hz4, hd4⟩ := fl4.there
      refine store_ok (X := X.suite a ((a, oe4) :: (X.pn ++ pins))) (v := .ref a) (J4.suite he4 hd4 na nL nF) hN hi (.inl hy) rfl (fun s5 S5 => ?_) (.inr hy)
      refine wpAny_mono ((hsu a oe4 cls d (X.pn ++ pins) hz4 ⟨_, hd4⟩).run [] s5 _ H' _ S5 (yes rfl a na)) (fun f s6 hsp => ?_) fun _ _ z => z.elim
      have gone : ∀ {σ6 : L2.St} {H6 : Hp} {Q : Shared → Prop}, Inv (X.suite a ((a, oe4) :: (X.pn ++ pins))) [] σ6 H6 s6 → (∀ s7, Inv X pins (σ6.set i none) H6 s7 → Q s7) →
          wpAny (model X.prog X.w) X.A (do bindName X.env y .none; unbindBehindTheSuite X.env y q) (fun _ s7 => Q s7) X.xe s6 := fun {σ6 H6 Q} S6 hq => gone_ok (S6.unsuite ok) hN hi hy hq
      cases f with
      | next => obtain ⟨σ6, H6, S6, q6⟩ := hsp; exact gone S6 fun s7 J7 => ⟨_, _, J7, q6⟩
      | brk => obtain ⟨σ6, H6, S6, q6⟩ := hsp; exact gone S6 fun s7 J7 => ⟨_, _, J7, q6⟩
      | cont => obtain ⟨σ6, H6, S6, q6⟩ := hsp; exact gone S6 fun s7 J7 => ⟨_, _, J7, q6⟩
      | ret u => obtain ⟨v6, σ6, H6, S6, r6, q6⟩ := hsp; exact gone S6 fun s7 J7 => ⟨_, _, _, J7, r6, q6⟩
theorem ps_try_mix (hs : X.stack = X.env :: X.outer) (hf : X.env.frame = some X.env.locals) (tk : Takes X Wout)
    (hb : ∀ (W : WX) (pn : List (Addr × Obj)) (xe : Value → Shared → Prop), Takes (X.tr pn xe) W → PassesOwn (model X.prog X.w) X.A X.env xe → PSs (X.tr pn xe) body (tb W))
    (hh : ClsOk X (h0 :: hds) l) : PS X (.Try body (h0 :: hds) [] [] pos) (fun D σ H => tb (wMix X.K Wout D l) D σ H) := ⟨fun pins s σ H D I h => by
  have ok := I.ok
  have hfr : X.A.frames = some (X.env :: X.outer) := by rw [ok.frames, hs]
  refine wpAny_Try_except ?_
  refine wpAny_mono ((hb (wMix X.K Wout D l) (X.pn ++ pins) (fun e s1 => wpAny (model X.prog X.w) X.A (noteFrame e X.env) (fun _ s2 => wpAny (model X.prog X.w) X.A (setFlight e none) (fun _ s3 =>
    wpAny (model X.prog X.w) X.A (handleBy e X.env (h0 :: hds)) (SP X pins D) X.xe s3) X.xe s2) X.xe s1) (fun u s' air => ?_) PassesOwn.looking).run [] s σ H D (I.toTry _) h) (fun f s1 hsp => ?_) fun _ _ z => z
  · obtain ⟨a, B, sI, pins', σ', H', cls, d, rfl, J', nb, up, sky, na, os, ag, w⟩ := air
    have J : Inv X pins σ' H' sI := J'.ofTry ok
    show wpAny (model X.prog X.w) X.A (noteFrame (.ref a) X.env) _ _ _
    refine Sky.land Zc.steady hfr hf (by rw [← hs]; exact sky) fun h3 fl3 up3 => ?_
    obtain ⟨oe3, vs3, he3, hz3, hd3⟩ := fl3.there
    have nfr : a ∉ frs (X.env :: X.outer) := fun hm => by
      obtain ⟨_, o', e', hnf⟩ := fl3.2.2.1.mem hm
      rw [he3] at e'
      cases e'
      exact hnf _ hd3
    refine mix_go hs hf tk ok J nb up up3 na os ag (fun z => nfr (List.mem_filterMap.mpr ⟨X.env, List.mem_cons_self, by rw [hf, z]⟩)) (fun hm => ?_) fl3 hh w
    obtain ⟨e, he, q⟩ := List.mem_filterMap.mp hm
    exact nfr (List.mem_filterMap.mpr ⟨e, List.mem_cons_of_mem _ he, q⟩)
  · cases f with
    | next => obtain ⟨σ', H', J', q⟩ := hsp; exact wpAny_execs_nil ⟨σ', H', J'.ofTry ok, q⟩
    | brk => obtain ⟨σ', H', J', q⟩ := hsp; exact ⟨σ', H', J'.ofTry ok, q⟩
    | cont => obtain ⟨σ', H', J', q⟩ := hsp; exact ⟨σ', H', J'.ofTry ok, q⟩
    | ret u => obtain ⟨v, σ', H', J', r, q⟩ := hsp; exact ⟨v, σ', H', J'.ofTry ok, r, q⟩⟩
end
end VI
set_option Elab.async false
set_option linter.all false
set_option maxRecDepth 100000
namespace VI
open PySem PySem.Spec PyProof.Rows L2

/-! try: .. / except C as e: return (c1, e.f1, ..) -/
inductive Xp where
  | k (d : PyData)
  | fld (f : Str)
def constV : PyData → Option V
  | .none => some .non
  | .bool b => some (.bl b)
  | .int i => some (.int i)
  | .str x => some (.str x)
  | _ => none
theorem constV_rep {K : PySem.W.Frag} {η : List Addr} {H : Hp} {d : PyData} {v : V} (e : constV d = some v) : RepD K η H d v := by
  cases d <;> cases e <;> constructor
def xpW (fs : List (Str × W)) : Xp → Option W
  | .k d => some (.d d)
  | .fld f => fs.lookup f
def xpsW (fs : List (Str × W)) : List Xp → Option (List W)
  | [] => some []
  | x :: r => match xpW fs x, xpsW fs r with
    | some w, some ws => some (w :: ws)
    | _, _ => none
def XpV (us : List (Str × V)) : Xp → V → Prop
  | .k d, v => constV d = some v
  | .fld f, v => us.lookup f = some v
abbrev XpsV (us : List (Str × V)) : List Xp → List V → Prop := Paired (XpV us)
def Xp.flat : Xp → Bool
  | .k d => (constV d).isSome
  | .fld _ => true
theorem lookup_rep {K : PySem.W.Frag} {η : List Addr} {H : Hp} : ∀ {fs : List (Str × W)} {us : List (Str × V)} {f : Str} {w : W}, fs.map (·.1) = us.map (·.1) → RepWs K η H (fs.map (·.2)) (us.map (·.2)) → fs.lookup f = some w → ∃ v, us.lookup f = some v ∧ RepW K η H w v
  | [], _, _, _, _, _, e => by cases e
  | (a, w0) :: fs, [], _, _, h, _, _ => by cases h
  | (a, w0) :: fs, (b, v0) :: us, f, w, h, r, e => by
    have hab : a = b := (List.cons.inj h).1
    subst hab
    cases r with
    | cons r1 r2 =>
      rw [List.lookup_cons] at e ⊢
      cases q : f == a with
      | true =>
        rw [q] at e
        have z : w0 = w := Option.some.inj e
        subst z
        exact ⟨v0, rfl, r1⟩
      | false =>
        rw [q] at e
        exact lookup_rep (List.cons.inj h).2 r2 e
theorem xps_rep {K : PySem.W.Frag} {η : List Addr} {H : Hp} {fs : List (Str × W)} {us : List (Str × V)} (h1 : fs.map (·.1) = us.map (·.1)) (h2 : RepWs K η H (fs.map (·.2)) (us.map (·.2))) : ∀ {xs : List Xp} {ws : List W}, xs.all Xp.flat = true → xpsW fs xs = some ws → ∃ vs, XpsV us xs vs ∧ RepWs K η H ws vs
  | [], ws, _, e => by cases e; exact ⟨[], .nil, .nil⟩
  | x :: xs, ws, hf, e => by
    rw [List.all_cons, Bool.and_eq_true] at hf
    rw [xpsW] at e
    cases q : xpW fs x with
    | none => rw [q] at e; cases e
    | some w =>
      cases q2 : xpsW fs xs with
      | none => rw [q, q2] at e; cases e
      | some ws2 =>
        rw [q, q2] at e
        cases e
        obtain ⟨vs, p, r⟩ := xps_rep h1 h2 hf.2 q2
        cases x with
        | k d =>
          cases q
          obtain ⟨v, ev⟩ := Option.isSome_iff_exists.mp hf.1
          exact ⟨v :: vs, .cons ev p, .cons (.d (constV_rep ev)) r⟩
        | fld f =>
          obtain ⟨v, ev, rv⟩ := lookup_rep h1 h2 q
          exact ⟨v :: vs, .cons ev p, .cons rv r⟩
/-- what is said of the parts of such a suite: i the slot of the exception's name, Cs the classes that may come -/
structure XArgs (X : Cx) (i : Option Nat) (Cs : Addr → Prop) (es : List Expr) (xs : List Xp) : Prop where
  run : ∀ (a : Addr) (oe : Obj) (cls : Value) (d : Option Addr) (pn : List (Addr × Obj)) (C : Addr), Zc cls d oe → (∃ vs, oe.data = .fields vs) → cls = .ref C → Cs C → ∃ t : TA, PA (X.suite a ((a, oe) :: pn)) es t ∧
    ∀ (σ : L2.St) (H : Hp) (Q : List V → Hp → Prop) (dd : Addr) (us : List (Str × V)) (vs : List V), (∀ j, i = some j → σ[j]? = some (some (.ref a))) → d = some dd → H dd = some (.xd us) → XpsV us xs vs → Q vs H → t σ H Q
section
variable {X : Cx} {i : Option Nat} {Cs : Addr → Prop} {es : List Expr} {xs : List Xp}
theorem xa_nil : XArgs X i Cs [] [] := ⟨fun a oe cls d pn C _ _ _ _ => ⟨_, pa_nil, fun σ H Q dd us vs _ _ _ p q => by cases p; exact q⟩⟩
theorem xa_const {e : Expr} {d0 : PyData} {v0 : V} (hd : constV d0 = some v0) (he : ∀ (a : Addr) (oe : Obj) (pn : List (Addr × Obj)), PE (X.suite a ((a, oe) :: pn)) e (tC v0)) (hr : XArgs X i Cs es xs) (hs : starEach (e :: es) X.env = (false, eval e X.env) :: starEach es X.env := by rfl) : XArgs X i Cs (e :: es) (.k d0 :: xs) := ⟨fun a oe cls d pn C z f hC hCs => by
  obtain ⟨t, pt, ht⟩ := hr.run a oe cls d pn C z f hC hCs
  refine ⟨_, pa_cons (he a oe pn) pt hs, fun σ H Q dd us vs sl ed ex p q => ?_⟩
  cases p with
  | @cons _ v _ ws p1 p2 =>
    have ev : v0 = v := Option.some.inj (hd.symm.trans p1)
    subst ev
    exact ht σ H (fun ws' H' => Q (v0 :: ws') H') dd us ws sl ed ex p2 q⟩
theorem xa_fld {j : Nat} {x f : Str} {p1 p2 : Pos} (hT : ∀ C, Cs C → XfC X.K C ∧ PySem.W.findIn X.K (.ref C) f = some none) (hr : XArgs X (some j) Cs es xs) (hj : X.N[j]? = some x := by rfl) (hv : Vis X.env.scope x := by first | exact Or.inl rfl | exact Or.inr (Or.inl rfl) | exact Or.inr (Or.inr rfl))
    (hd : (x == ("__debug__" : Str)) = false := by decide) (hcd : (x == ("__classdict__" : Str)) = false := by decide) (hb : attributeBase (.Name x p1) f X.env (eval (.Name x p1) X.env) = eval (.Name x p1) X.env := by rfl)
    (hs : starEach (.Attribute (.Name x p1) f p2 :: es) X.env = (false, eval (.Attribute (.Name x p1) f p2) X.env) :: starEach es X.env := by rfl) : XArgs X (some j) Cs (.Attribute (.Name x p1) f p2 :: es) (.fld f :: xs) := ⟨fun a oe cls d pn C z fl hC hCs => by
  obtain ⟨t, pt, ht⟩ := hr.run a oe cls d pn C z fl hC hCs
  obtain ⟨T, no⟩ := hT C hCs
  have he : PE (X.suite a ((a, oe) :: pn)) (.Name x p1) (tVar j) := pe_var hj hv hd hcd
  refine ⟨_, pa_cons (pe_xf T no z fl he hb) pt hs, fun σ H Q dd us vs sl ed ex p q => ?_⟩
  cases p with
  | @cons _ v _ ws q1 q2 =>
    exact ⟨.ref a, sl j rfl, rfl, hC, dd, us, v, ed, ex, q1, ht σ H (fun ws' H' => Q (v :: ws') H') dd us ws sl ed ex q2 q⟩⟩
/-- the suite's reading -/
def tsX (Cs : Addr → Prop) (i : Option Nat) (xs : List Xp) : Addr → Value → Option Addr → TS := fun a cls d D σ H => ∃ (C dd : Addr) (us : List (Str × V)) (vs : List V), cls = .ref C ∧ Cs C ∧ d = some dd ∧ H dd = some (.xd us) ∧ (∀ j, i = some j → σ[j]? = some (some (.ref a))) ∧ XpsV us xs vs ∧
  vs.length ≤ sizeLine ∧ ∀ p, H p = none → D.rt (.ref p) (upd H p (.tup vs))
theorem suite_ret {k : Nat} {p1 pos : Pos} (hx : XArgs X i Cs es xs) (a : Addr) (oe : Obj) (cls : Value) (d : Option Addr) (pn : List (Addr × Obj)) (z : Zc cls d oe) (f : ∃ vs, oe.data = .fields vs) :
    PSs (X.suite a ((a, oe) :: pn)) [.Return (some (.Tuple es k p1)) pos] (tsX Cs i xs a cls d) := ⟨fun pins s σ H D I ⟨C, dd, us, vs, e1, e2, e3, e4, e5, e6, e7, e8⟩ => by
  obtain ⟨t, pt, ht⟩ := hx.run a oe cls d pn C z f e1 e2
  exact (pss_one (ps_ret (pe_tup pt))).run pins s σ H D I (ht σ H _ dd us vs e5 e3 e4 e6 ⟨e7, e8⟩)⟩
end
/-- except c (as the name at slot): return (xs) -/
structure Hd where
  c : Nat
  slot : Option Nat
  xs : List Xp
def tryHs (sub : Nat → Nat → Bool) (c : Nat) (fs : List (Str × W)) (ρ : Rho) (S : Store) : List Hd → RF
  | [] => .exc c fs ρ S
  | h :: r => if sub c h.c = true then (match xpsW fs h.xs with
    | some ws => .ret (mkT ws) S
    | none => .bad) else tryHs sub c fs ρ S r
def fTry (sub : Nat → Nat → Bool) (b : FS) (hs : List Hd) : FS := fun ρ S => match b ρ S with
  | .exc c fs ρ1 S1 => tryHs sub c fs ρ1 S1 hs
  | r => r
/-- the classes that clause h takes -/
def Takers (ct : Nat → Option Addr) (sub : Nat → Nat → Bool) (h : Nat) (C : Addr) : Prop := ∃ c, ct c = some C ∧ sub c h = true
inductive HsOk (X : Cx) (ct : Nat → Option Addr) (sub : Nat → Nat → Bool) : List ExceptHandler → List Hd → List Cl → Prop
  | nil : HsOk X ct sub [] [] []
  | plain {x : Str} {cv : Value} {c : Nat} {xs : List Xp} {es : List Expr} {k : Nat} {p1 p2 np q : Pos} {hds : List ExceptHandler} {hs : List Hd} {l : List Cl} (hc : Names X x cv) (hsub : ∀ c' C, ct c' = some C → PySem.W.exmOne X.K (.ref C) cv = some (sub c' c))
      (hz : xs.length ≤ 1000) (hfl : xs.all Xp.flat = true) (hx : XArgs X none (Takers ct sub c) es xs) (r : HsOk X ct sub hds hs l) : HsOk X ct sub (.ExceptHandler (some (.Name x np)) none [.Return (some (.Tuple es k p1)) p2] q :: hds) (⟨c, none, xs⟩ :: hs) (⟨cv, none, tsX (Takers ct sub c) none xs⟩ :: l)
  | named {x y : Str} {i : Nat} {cv : Value} {c : Nat} {xs : List Xp} {es : List Expr} {k : Nat} {p1 p2 np q : Pos} {hds : List ExceptHandler} {hs : List Hd} {l : List Cl} (hc : Names X x cv) (hN : X.N.Nodup) (hi : X.N[i]? = some y) (hy : X.env.kindOf y = some .local) (hsub : ∀ c' C, ct c' = some C → PySem.W.exmOne X.K (.ref C) cv = some (sub c' c))
      (hz : xs.length ≤ 1000) (hfl : xs.all Xp.flat = true) (hx : XArgs X (some i) (Takers ct sub c) es xs) (r : HsOk X ct sub hds hs l) : HsOk X ct sub (.ExceptHandler (some (.Name x np)) (some y) [.Return (some (.Tuple es k p1)) p2] q :: hds) (⟨c, some i, xs⟩ :: hs) (⟨cv, some i, tsX (Takers ct sub c) (some i) xs⟩ :: l)
section
variable {X : Cx} {ct : Nat → Option Addr} {sub : Nat → Nat → Bool}
theorem HsOk.cls {cs : List ExceptHandler} {hs : List Hd} {l : List Cl} (h : HsOk X ct sub cs hs l) : ClsOk X cs l := by
  induction h with
  | nil => exact .nil
  | plain hc hsub hz hfl hx r ih => exact .plain hc (fun a oe cls d pn z f => suite_ret hx a oe cls d pn z f) ih
  | named hc hN hi hy hsub hz hfl hx r ih => exact .named hc hN hi hy (fun a oe cls d pn z f => suite_ret hx a oe cls d pn z f) ih
theorem try_key {E : EX} {Wout : WX} {D : Ends} {c : Nat} {fs : List (Str × W)} {ρ : Rho} {S : Store} {η : List Addr} {H : Hp} (hE : ∀ σ cls d H, E σ cls d H → Wout cls d σ H) {cs : List ExceptHandler} {hs : List Hd} {l : List Cl} (hh : HsOk X ct sub cs hs l) (h : FinS (gx X ct) E η H (tryHs sub c fs ρ S hs) D) :
    ∀ η' H' σ C d vs, Fu η H η' H' → Rp X.K η' H' S → ERep X.K η' H' ρ σ → ct c = some C → H' d = some (.xd vs) → RepF X.K η' H' fs vs → X.N.length ≤ σ.length → wMix X.K Wout D l (.ref C) (some d) σ H' := by
  intro η' H' σ C d vs f rp er hct hd hf hσ
  have body : ∀ {k : Hd} {i : Option Nat} {σ2 : L2.St} {a : Addr}, (match xpsW fs k.xs with | some ws => RF.ret (mkT ws) S | none => .bad) = .bad ∨ True → k.xs.length ≤ 1000 → k.xs.all Xp.flat = true → sub c k.c = true → FinS (gx X ct) E η H (match xpsW fs k.xs with | some ws => .ret (mkT ws) S | none => .bad) D → (∀ j, i = some j → σ2[j]? = some (some (.ref a))) →
      ∀ D2 : Ends, D2.rt = D.rt → tsX (Takers ct sub k.c) i k.xs a (.ref C) (some d) D2 σ2 H' := by
    intro k i σ2 a _ hz hfl hs1 h2 sl D2 hD2
    cases q : xpsW fs k.xs with
    | none => rw [q] at h2; exact h2.elim
    | some ws =>
      rw [q] at h2
      obtain ⟨us, p, r⟩ := xps_rep hf.1 hf.2 hfl q
      have lz : us.length ≤ sizeLine := by
        have e1 : k.xs.length = us.length := Paired.length p
        rw [sizeLine_eq]
        omega
      refine ⟨C, d, vs, us, rfl, ⟨c, hct, hs1⟩, rfl, hd, sl, p, lz, fun pp np => ?_⟩
      rw [hD2]
      exact h2 η' _ (.ref pp) (f.trans (fu_new np)) (rp.new np) (RepWs.mk (SqT.of upd_same) (RepWs.fu (fu_new np) _ _ r))
  induction hh with
  | nil => exact hE _ _ _ _ (h η' H' σ C d vs f rp er hct hd hf)
  | plain hc hsub hz hfl hx r ih =>
    refine ⟨_, hsub c C hct, fun e a na => ?_, fun e => ih ?_⟩
    · rw [tryHs, if_pos e] at h
      exact body (.inr trivial) hz hfl e h (fun j z => by cases z) D rfl
    · rw [tryHs, if_neg (by rw [e]; decide)] at h
      exact h
  | @named x y i cv c2 xs es k p1 p2 np q hds hs l hc hN hi hy hsub hz hfl hx r ih =>
    refine ⟨_, hsub c C hct, fun e a na => ?_, fun e => ih ?_⟩
    · rw [tryHs, if_pos e] at h
      refine body (i := some i) (.inr trivial) hz hfl e h (fun j z => ?_) _ rfl
      cases z
      exact List.getElem?_set_self (Nat.lt_of_lt_of_le (List.getElem?_eq_some_iff.mp hi).1 hσ)
    · rw [tryHs, if_neg (by rw [e]; decide)] at h
      exact h
end
end VI
set_option Elab.async false
set_option linter.all false
set_option maxRecDepth 100000
namespace VI
open PySem PySem.Spec PyProof.Rows L2

/-! try as a rule of functions -/
/-- n: how many slots the def has -/
def fTryN (n : Nat) (sub : Nat → Nat → Bool) (b : FS) (hs : List Hd) : FS := fun ρ S => match b ρ S with
  | .exc c fs ρ1 S1 => if n ≤ ρ1.length then tryHs sub c fs ρ1 S1 hs else .bad
  | r => r
theorem s_try {X : Cx} {ct : Nat → Option Addr} {E : EX} {Wout : WX} {sub : Nat → Nat → Bool} {body : List Stmt} {h0 : ExceptHandler} {hds : List ExceptHandler} {hs : List Hd} {l : List Cl} {b : FS} {pos : Pos} {n : Nat}
    (tk : Takes X Wout) (hE : ∀ σ cls d H, E σ cls d H → Wout cls d σ H) (hn : X.N.length = n)
    (hb : ∀ (W : WX) (pn : List (Addr × Obj)) (xe : Value → Shared → Prop), Takes (X.tr pn xe) W → PassesOwn (model X.prog X.w) X.A X.env xe → PSs (X.tr pn xe) body (tS (gx X ct) (WE W) b))
    (hh : HsOk X ct sub (h0 :: hds) hs l) (hst : X.stack = X.env :: X.outer := by rfl) (hf : X.env.frame = some X.env.locals := by rfl) : PS X (.Try body (h0 :: hds) [] [] pos) (tS (gx X ct) E (fTryN n sub b hs)) :=
  PSw (ps_try_mix (tb := fun W => tS (gx X ct) (WE W) b) hst hf tk hb hh.cls) fun D σ H ⟨η, ρ, S, rp, er, h⟩ => by
    refine ⟨η, ρ, S, rp, er, ?_⟩
    unfold fTryN at h
    cases q : b ρ S with
    | next ρ2 S2 => rw [q] at h; exact h
    | ret u S2 => rw [q] at h; exact h
    | brk ρ2 S2 => rw [q] at h; exact h
    | cnt ρ2 S2 => rw [q] at h; exact h
    | bad => rw [q] at h; exact h
    | exc c fs ρ1 S1 =>
      rw [q] at h
      have h2 : FinS (gx X ct) E η H (if n ≤ ρ1.length then tryHs sub c fs ρ1 S1 hs else .bad) D := h
      by_cases hl : n ≤ ρ1.length
      · rw [if_pos hl] at h2
        intro η' H' σ' C d vs f rp1 er1 hct hd hfs
        exact try_key hE hh h2 η' H' σ' C d vs f rp1 er1 hct hd hfs (by rw [hn, er1.1]; exact hl)
      · rw [if_neg hl] at h2
        exact h2.elim
end VI
set_option Elab.async false
set_option linter.all false
set_option maxRecDepth 100000
namespace VI
open PySem PySem.Spec PyProof.Rows L2

/-! a module with own exception classes: what its defs are told -/
/-- class number c: the name x, its fields fs; it may be raised -/
def KRaise (P : Program) (w : World) (K : PySem.W.Frag) (mg : Str → Option Value) (base : Heap) (ct : Nat → Option Addr) (c : Nat) (x : Str) (fs : List Str) : Prop := ∃ C : Addr, ct c = some C ∧ OwnX P w K mg base 1 x C fs
/-- class number c, the name x: what an except clause finds of it -/
def KTake (K : PySem.W.Frag) (mg : Str → Option Value) (ct : Nat → Option Addr) (sub : Nat → Nat → Bool) (c : Nat) (x : Str) : Prop := ∃ cv : Value, mg x = some cv ∧ ∀ c' C, ct c' = some C → PySem.W.exmOne K (.ref C) cv = some (sub c' c)
/-- the field f of what clause c takes -/
def KField (K : PySem.W.Frag) (ct : Nat → Option Addr) (sub : Nat → Nat → Bool) (c : Nat) (f : Str) : Prop := ∀ C, Takers ct sub c C → XfC K C ∧ PySem.W.findIn K (.ref C) f = some none
section
variable {P : Program} {w : World} {K : PySem.W.Frag} {mg : Str → Option Value} {base : Heap} {ct : Nat → Option Addr} {n : Nat} {x : Str} {st : Stmt} {N ps : List Str} {g : List W → Store → R W} {b : FS}
theorem room_two {A : Around} (h : 2 ≤ n) (r : Room n A) : Room 2 A := by
  have d := r.dp
  have u := r.un
  exact { r with dp := by omega, un := by omega }
theorem takes_none {X : Cx} : Takes X (fun _ _ _ _ => False) := fun u s' x => by
  obtain ⟨a, B, sI, pins, σ, H, cls, d, e, I, nb, up, sky, na, os, ag, z⟩ := x
  exact z.elim
theorem raise_E {X : Cx} {E : EX} {W0 : WX} {c : Nat} {fs : List Str} {e : Expr} {es : List Expr} {p pos pos2 : Pos} {fa : FA} (k : KRaise X.prog X.w X.K X.mg X.base ct c x fs) (hc : X.calm = true) (tk : Takes X W0) (hE : ∀ σ cls d H, E σ cls d H → W0 cls d σ H)
    (hr : Room 2 X.A) (hn : fs.length ≤ 1000) (ha : PA X (e :: es) (tA (gx X ct) E fa)) (hg : Gl X x := by rfl) (hdb : (x == ("__debug__" : Str)) = false := by decide) (he : starEach (e :: es) X.env = (false, eval e X.env) :: starEach es X.env := by rfl) (hpl : (backTo pos (starEach es X.env)).any (·.1) = false := by rfl) :
    PS X (.Raise (some (.Call (.Name x p) (e :: es) [] pos)) none pos2) (tS (gx X ct) E (fRaise c fs fa)) := by
  obtain ⟨C, hct, O⟩ := k
  exact s_raiseC hc tk hE hct O hr hn ha hg hdb he hpl
theorem calleeX_zero (D : DefAt K mg x st) (hB : Bnd x st ps) (h : ∀ ws S, g ws S = .bad) : CalleeC (L2.CX P w) P w K mg base ct n x ps g := by
  obtain ⟨f, fd, F, m⟩ := D
  refine ⟨f, fd, ⟨fun vs H Q E h => h.1, fun A outer s H args us vs Q E _ _ _ _ _ hh => ?_⟩, m, F.kp, F.bindsN hB⟩
  obtain ⟨_, η, S, ws, rp, rr, fin⟩ := hh
  rw [h] at fin
  exact fin.elim
theorem calleeX_succ (D : DefAt K mg x st) (hB : Bnd x st ps) (hS : FnScope N ps (defScope st)) (e : ∀ ws S, g ws S = if 2 ≤ n then runX N.length b ws S else .bad)
    (h : ∀ (f : Addr) (cdv : Value) (A : Around) (outer : List Env) (s : Shared) (H : Hp) (E : XK), 2 ≤ n → Room n (A.deeper (envOfC x (defScope st) s.heap.objs.size f cdv)) → A.guards = some [] → PSs (bodyE P w K mg base N x (defScope st) f cdv A outer s H E) (defBody st) (tS ⟨K, ct⟩ (fun _ => E) b)) :
    CalleeC (L2.CX P w) P w K mg base ct (n + 1) x ps g := by
  by_cases h2 : 2 ≤ n
  · obtain ⟨f, fd, F, m⟩ := id D
    obtain ⟨oc, od, dV, kV, doc, pm, an, cdv, cv, sl, rfl, lk, hcd, _, _⟩ := F.ex
    exact ⟨f, _, fnX_of lk hcd hS fun A outer s H E r gd => ⟨b, fun ws S _ => by rw [e, if_pos h2], h f cdv A outer s H E h2 r gd⟩, m, F.kp, F.bindsN hB⟩
  · exact calleeX_zero D hB fun ws S => by rw [e, if_neg h2]
end
/-! the clauses, as the generator writes them -/
section
variable {X : Cx} {ct : Nat → Option Addr} {sub : Nat → Nat → Bool}
theorem h_plain {x : Str} {c : Nat} {xs : List Xp} {es : List Expr} {k : Nat} {p1 p2 np q : Pos} {hds : List ExceptHandler} {hs : List Hd} (kt : KTake X.K X.mg ct sub c x) (hx : XArgs X none (Takers ct sub c) es xs) (r : ∃ l, HsOk X ct sub hds hs l) (hg : Gl X x := by rfl) (hdb : (x == ("__debug__" : Str)) = false := by decide)
    (hz : xs.length ≤ 1000 := by decide) (hfl : xs.all Xp.flat = true := by rfl) : ∃ l, HsOk X ct sub (.ExceptHandler (some (.Name x np)) none [.Return (some (.Tuple es k p1)) p2] q :: hds) (⟨c, none, xs⟩ :: hs) l := by
  obtain ⟨cv, m, h⟩ := kt
  obtain ⟨l, r⟩ := r
  exact ⟨_, .plain ⟨hg, hdb, .inl m⟩ h hz hfl hx r⟩
theorem h_named {x y : Str} {i c : Nat} {xs : List Xp} {es : List Expr} {k : Nat} {p1 p2 np q : Pos} {hds : List ExceptHandler} {hs : List Hd} (kt : KTake X.K X.mg ct sub c x) (hN : X.N.Nodup) (hx : XArgs X (some i) (Takers ct sub c) es xs) (r : ∃ l, HsOk X ct sub hds hs l) (hi : X.N[i]? = some y := by rfl) (hy : X.env.kindOf y = some .local := by rfl)
    (hg : Gl X x := by rfl) (hdb : (x == ("__debug__" : Str)) = false := by decide) (hz : xs.length ≤ 1000 := by decide) (hfl : xs.all Xp.flat = true := by rfl) : ∃ l, HsOk X ct sub (.ExceptHandler (some (.Name x np)) (some y) [.Return (some (.Tuple es k p1)) p2] q :: hds) (⟨c, some i, xs⟩ :: hs) l := by
  obtain ⟨cv, m, h⟩ := kt
  obtain ⟨l, r⟩ := r
  exact ⟨_, .named ⟨hg, hdb, .inl m⟩ hN hi hy h hz hfl hx r⟩
theorem h_nil : ∃ l, HsOk X ct sub [] [] l := ⟨[], .nil⟩
theorem try_E {E : EX} {Wout : WX} {body : List Stmt} {h0 : ExceptHandler} {hds : List ExceptHandler} {hs : List Hd} {b : FS} {pos : Pos} {n : Nat} (tk : Takes X Wout) (hE : ∀ σ cls d H, E σ cls d H → Wout cls d σ H)
    (hb : ∀ (W : WX) (pn : List (Addr × Obj)) (xe : Value → Shared → Prop), Takes (X.tr pn xe) W → PassesOwn (model X.prog X.w) X.A X.env xe → PSs (X.tr pn xe) body (tS (gx X ct) (WE W) b))
    (hh : ∃ l, HsOk X ct sub (h0 :: hds) hs l) (hn : X.N.length = n := by rfl) (hst : X.stack = X.env :: X.outer := by rfl) (hf : X.env.frame = some X.env.locals := by rfl) : PS X (.Try body (h0 :: hds) [] [] pos) (tS (gx X ct) E (fTryN n sub b hs)) := by
  obtain ⟨l, hh⟩ := hh
  exact s_try tk hE hn hb hh hst hf
end
end VI
set_option Elab.async false
set_option linter.all false
set_option maxRecDepth 100000
namespace VI
open PySem PySem.Spec PyProof.Rows L2

/-! what the head's run tells of a module's constants and classes -/
/-- a class over ValueError with an __init__ of its own -/
def oexB (K : PySem.W.Frag) (C : Addr) : Bool := (match K.lookup C with
  | some ⟨.type "type", _, .cls cd, sl⟩ => (match cd.mro, sl.toList with
    | .ref C' :: bm, [_, _, _, _, some (.builtin n), _] => C' == C && n == "ValueError.__new__" && cd.hasDict && !cd.hasDel && PySem.HandSPX.refsVE bm
    | _, _ => false)
  | _ => false) && (decide (PySem.W.findIn K (.ref C) "__setattr__" = some (some (.builtin "object.__setattr__"))) && (decide (PySem.W.subIn K (.ref C) (.type "BaseException") = some true) && (decide (PySem.W.typeIn K (.ref C) = some (.type "type")) && PySem.W.keepIn K (.ref C))))
theorem oexB_ok {K : PySem.W.Frag} {C : Addr} (h : oexB K C = true) : OexC K C := by
  obtain ⟨q, h⟩ := He.ba h
  obtain ⟨h2, h⟩ := He.ba h
  obtain ⟨h3, h⟩ := He.ba h
  obtain ⟨h4, h5⟩ := He.ba h
  refine ⟨?_, of_decide_eq_true h2, of_decide_eq_true h3, of_decide_eq_true h4, h5⟩
  split at q
  · rename_i dd cd sl ho
    split at q
    · rename_i C' bm k0 k1 k2 k3 n k5 hm hs
      simp only [Bool.and_eq_true, beq_iff_eq, Bool.not_eq_true'] at q
      obtain ⟨⟨⟨⟨rfl, rfl⟩, hdct⟩, hdel⟩, ht⟩ := q
      obtain ⟨nm, bs, mro, ns, qn, hd, sn, sub, ab, col, del⟩ := cd
      dsimp only at hm hdel hdct
      subst hm hdel hdct
      have hsl : sl = #[k0, k1, k2, k3, some (.builtin "ValueError.__new__"), k5] := by
        obtain ⟨l⟩ := sl
        simp only at hs
        rw [hs]
      subst hsl
      exact ⟨_, _, _, _, _, _, _, _, _, _, _, _, _, _, _, ho, ht⟩
    · cases q
  · cases q
/-- what a module's name stands for -/
def mgAt (K : PySem.W.Frag) (x : Str) : Option Value := match PySem.W.nsIn K mainGlobals x with
  | some (some v) => some v
  | _ => none
mutual
/-- d stands for u, as far as K tells -/
def repB (K : PySem.W.Frag) : PyData → Value → Bool
  | .none, .none => true
  | .bool b, .bool c => b == c
  | .int i, .int j _ => decide (i = j)
  | .str x, .str y _ => decide (x = y)
  | .tuple ds, .ref a => (match K.lookup a with
    | some ⟨.type "tuple", _, .seq its _, _⟩ => decide (its.size ≤ sizeLine) && repsB K ds its.toList
    | _ => false)
  | _, _ => false
def repsB (K : PySem.W.Frag) : List PyData → List Value → Bool
  | [], [] => true
  | d :: ds, u :: us => repB K d u && repsB K ds us
  | _, _ => false
end
mutual
theorem repB_ok {K : PySem.W.Frag} : ∀ (d : PyData) (u : Value), repB K d u = true → ∃ v, RelV v u ∧ ∀ η H, RepD K η H d v
  | .none, u, h => by
    cases u <;> first | exact ⟨.non, rfl, fun _ _ => .none⟩ | (simp [repB] at h)
  | .bool b, u, h => by
    cases u with
    | bool c => exact ⟨.bl b, by rw [repB, beq_iff_eq] at h; rw [h]; rfl, fun _ _ => .bool b⟩
    | _ => simp [repB] at h
  | .int i, u, h => by
    cases u with
    | int j t => exact ⟨.int i, by rw [repB, decide_eq_true_eq] at h; exact ⟨t, by rw [h]⟩, fun _ _ => .int i⟩
    | _ => simp [repB] at h
  | .str x, u, h => by
    cases u with
    | str y t => exact ⟨.str x, by rw [repB, decide_eq_true_eq] at h; exact ⟨t, by rw [h]⟩, fun _ _ => .str x⟩
    | _ => simp [repB] at h
  | .tuple ds, u, h => by
    cases u with
    | ref a =>
      rw [repB] at h
      split at h
      · rename_i dd its n sl ho
        obtain ⟨h1, h2⟩ := He.ba h
        obtain ⟨vs, r, rd⟩ := repsB_ok ds _ h2
        exact ⟨.ref a, rfl, fun η H => .tuple (.inr ⟨_, its, n, ho, rfl, rfl, of_decide_eq_true h1, r⟩) (rd η H)⟩
      · cases h
    | _ => simp [repB] at h
  | .list _, u, h => by cases u <;> simp [repB] at h
theorem repsB_ok {K : PySem.W.Frag} : ∀ (ds : List PyData) (us : List Value), repsB K ds us = true → ∃ vs, Vals vs us ∧ ∀ η H, RepDs K η H ds vs
  | [], [], _ => ⟨[], .nil, fun _ _ => .nil⟩
  | [], _ :: _, h => by simp [repsB] at h
  | _ :: _, [], h => by simp [repsB] at h
  | d :: ds, u :: us, h => by
    rw [repsB] at h
    obtain ⟨h1, h2⟩ := He.ba h
    obtain ⟨v, r, rd⟩ := repB_ok d u h1
    obtain ⟨vs, r2, rd2⟩ := repsB_ok ds us h2
    exact ⟨v :: vs, .cons r r2, fun η H => .cons (rd η H) (rd2 η H)⟩
end
def conB (K : PySem.W.Frag) (x : Str) (d : PyData) : Bool := match PySem.W.nsIn K mainGlobals x with
  | some (some u) => repB K d u
  | _ => false
theorem conB_ok {K : PySem.W.Frag} {h : Heap} {mg : Str → Option Value} {x : Str} {d : PyData} (X : K.In h) (G : h.Ns mainGlobals mg) (c : conB K x d = true) : KCon K mg x d := by
  unfold conB at c
  split at c
  · rename_i u e
    obtain ⟨v, r, rd⟩ := repB_ok d u c
    exact ⟨v, u, PySem.W.mg_of X G e, r, rd⟩
  · cases c
/-- the hook of the library, and one's own look at K -/
def hookV (n : Nat) (fa : List He.Fa) (fn : List He.DefD) (ex : PySem.W.Frag → Bool) : PySem.W.Hook where
  α := He.AlD × Bool
  obs := fun s => (He.obsDG n fa fn s.heap.get?, ex (He.frG s.heap.get? (He.asD s.heap.get? n)))
  val := fun _ => (He.valD fn, true)
  says := fun _ h => ∃ K : PySem.W.Frag, K.In h ∧ He.SaysD fa fn K ∧ ex K = true
  of := fun _ _ e => ⟨_, He.frG_in, congrArg (fun z : He.AlD × Bool => z.1) e, congrArg (fun z : He.AlD × Bool => z.2) e⟩
  keeps := fun _ _ _ ⟨K, hK, c⟩ k => ⟨K, PySem.W.Frag.In.keeps hK k, c⟩
def obsV (n : Nat) (fa : List He.Fa) (fn : List He.DefD) (ex : PySem.W.Frag → Bool) (g : Addr → Option Obj) : He.AlD × Bool := (He.obsDG n fa fn g, ex (He.frG g (He.asD g n)))
theorem obsV_eq {n : Nat} {fa : List He.Fa} {fn : List He.DefD} {ex : PySem.W.Frag → Bool} {g : Addr → Option Obj} {s : Shared} (h : ∀ a, g a = s.heap.get? a) : obsV n fa fn ex g = (hookV n fa fn ex).obs s := by
  have e : g = s.heap.get? := funext h
  rw [e] <;> rfl
end VI
set_option Elab.async false
set_option linter.all false
set_option maxRecDepth 100000
namespace VI
open PySem PySem.Spec PyProof.Rows L2

/-! from the head's facts to what the defs are told -/
theorem all_at {l : List Bool} (h : l.all id = true) (i : Nat) {b : Bool} (e : l[i]? = some b := by rfl) : b = true := List.all_eq_true.mp h b (List.mem_of_getElem? e)
section
variable {K : PySem.W.Frag} {h : Heap} {mg : Str → Option Value} {fas : List He.Fa} {fns : List He.DefD} {P : Program} {w : World} {base : Heap}
theorem defAt_of {x : Str} {st : Stmt} (X : K.In h) (G : h.Ns mainGlobals mg) (c : (He.Fa.glo x).ok K = true) (F : ∃ fd, FunD K x x (defArgs st) (defBody st) (defScope st) [] [] (He.ga K x) fd) : DefAt K mg x st := by
  obtain ⟨fd, F⟩ := F
  exact ⟨_, fd, F, He.glo_ok X G c⟩
theorem ownX_one {x qual f1 p1 : Str} {pr : Arguments} {body : List Stmt} {sc : Scope} (X : K.In h) (G : h.Ns mainGlobals mg) (c : (He.Fa.glo x).ok K = true) (T : oexB K (He.ga K x) = true) (m : (He.Fa.meth x "__init__").ok K = true) (ty : decide (PySem.W.typeIn K (.ref (He.ma K (He.ga K x) "__init__")) = some (.type "function")) = true)
    (n1 : (He.Fa.noat x f1).ok K = true) (F : ∃ fd, FunD K "__init__" qual pr body sc [] [] (He.ma K (He.ga K x) "__init__") fd) (hS : FnScope ["self", p1] ["self", p1] sc)
    (hB : ∀ (kV doc pm : Value) (an : Option Addr) (cdv ct : Value) (us : List Value), us.length = 2 → bindArgs (PySem.W.fnOf "__init__" qual pr body sc .none kV doc pm an cdv ct) ⟨us, []⟩ = pure ((["self", p1] : List Str).zip us))
    (hb : ∀ (cdv : Value) (A : Around) (outer : List Env) (s : Shared) (H : Hp) (E : XK), PSs (cxOf CX0 P w K mg base ["self", p1] qual sc (He.ma K (He.ga K x) "__init__") cdv A outer s H E) body (tOst K f1 (tVar 0) (tVar 1))) : OwnX P w K mg base 1 x (He.ga K x) [f1] := by
  obtain ⟨fd, F⟩ := F
  exact ⟨He.glo_ok X G c, oexB_ok T, _, fd, _, (He.meth_ok m).at_, of_decide_eq_true ty, init_one (k := 0) F hS (oexB_ok T) (He.noat_ok n1) hb, F.bindsN hB⟩
theorem ownX_two {x qual f1 f2 p1 p2 : Str} {pr : Arguments} {body : List Stmt} {sc : Scope} (X : K.In h) (G : h.Ns mainGlobals mg) (c : (He.Fa.glo x).ok K = true) (T : oexB K (He.ga K x) = true) (m : (He.Fa.meth x "__init__").ok K = true) (ty : decide (PySem.W.typeIn K (.ref (He.ma K (He.ga K x) "__init__")) = some (.type "function")) = true)
    (n1 : (He.Fa.noat x f1).ok K = true) (n2 : (He.Fa.noat x f2).ok K = true) (F : ∃ fd, FunD K "__init__" qual pr body sc [] [] (He.ma K (He.ga K x) "__init__") fd) (hS : FnScope ["self", p1, p2] ["self", p1, p2] sc)
    (hB : ∀ (kV doc pm : Value) (an : Option Addr) (cdv ct : Value) (us : List Value), us.length = 3 → bindArgs (PySem.W.fnOf "__init__" qual pr body sc .none kV doc pm an cdv ct) ⟨us, []⟩ = pure ((["self", p1, p2] : List Str).zip us))
    (hb : ∀ (cdv : Value) (A : Around) (outer : List Env) (s : Shared) (H : Hp) (E : XK), PSs (cxOf CX0 P w K mg base ["self", p1, p2] qual sc (He.ma K (He.ga K x) "__init__") cdv A outer s H E) body (tSeq (tOst K f1 (tVar 0) (tVar 1)) (tOst K f2 (tVar 0) (tVar 2)))) : OwnX P w K mg base 1 x (He.ga K x) [f1, f2] := by
  obtain ⟨fd, F⟩ := F
  exact ⟨He.glo_ok X G c, oexB_ok T, _, fd, _, (He.meth_ok m).at_, of_decide_eq_true ty, init_two (k := 0) F hS (oexB_ok T) (He.noat_ok n1) (He.noat_ok n2) hb, F.bindsN hB⟩
end
end VI
set_option Elab.async false
set_option linter.all false
set_option maxRecDepth 100000
namespace VI
open PySem PySem.Spec PyProof.Rows L2

/-! the end, the classes' numbers told by K -/
section
variable {k : Nat} {x : Str} {g : List W → Store → R W}
theorem walk_K {l : PySem.W.OpenLaw} {n : Nat} {q : Program} {loose : List Str} {XP : (Str → Option Value) → Heap → Prop} {YP : World → Heap → Prop} {d : DefRec}
    (hn : l.most = some n) (hn2 : n ≤ sizeLine) (hdf : d.params.defaults = []) (hr : Room k callerA)
    (F : ∀ (w : World) (mg : Str → Option Value) (fa : Addr) (h : Heap), YP w h → h.Ns mainGlobals mg → mg d.name = some (.ref fa) →
      ∃ (K : PySem.W.Frag) (ct : Nat → Option Addr) (fd : FuncData), K.In h ∧ (∀ (s : Shared) (u : Value), BindsTo s fd ⟨[u], []⟩ [(x, u)]) ∧
        ∀ base : Heap, K.In base → base.Ns mainGlobals mg → FnG l.prog w K mg base CX0 k fa fd [x] (spG ⟨K, ct⟩ 1 g))
    (good : ∀ ns : List Int, ns.length ≤ n → (∀ z ∈ ns, Builtin.Int.intBits z ≤ 1048576) → ∃ S', g [scriptW ns] [] = .ok (.d (.bool true)) S') :
    PySem.W.WalkO q loose XP YP l.row.toRowW d [] (fun f vs => PySem.call f vs) :=
  Att.attach_callB hn hdf fun w s₀ s1 mg mb fa o pm cd doc a vs ns G Y ho hd hcd hmg hobj hints hlen hbits hg => by
    obtain ⟨K, ct, fd, KX, hb, hF⟩ := F w mg fa _ Y G.T.g hmg
    exact ask KX G.T.g G.T.b G.T.builtins G.T.nolimit hg hobj hints (Nat.le_trans hlen hn2) hr hF hb (good ns hlen hbits)
/-- the def that is the law, by its body -/
theorem law_of {P : Program} {w : World} {K : PySem.W.Frag} {mg : Str → Option Value} {ct : Nat → Option Addr} {nm : Str} {st : Stmt} {fa : Addr} {N : List Str} {n : Nat} {b : FS} (D : DefAt K mg nm st) (hB : Bnd nm st [x]) (hmg : mg nm = some (.ref fa)) (hS : FnScope N [x] (defScope st)) (e : ∀ ws S, g ws S = runB N.length b ws S)
    (h : ∀ (base : Heap) (f : Addr) (cdv : Value) (A : Around) (outer : List Env) (s : Shared) (H : Hp) (E : XK), Room n (A.deeper (envOfC nm (defScope st) s.heap.objs.size f cdv)) → A.guards = some [] → PSs (bodyX P w K mg base N nm (defScope st) f cdv A outer s H E) (defBody st) (tS ⟨K, ct⟩ NX b)) :
    ∃ fd : FuncData, (∀ (s : Shared) (u : Value), BindsTo s fd ⟨[u], []⟩ [(x, u)]) ∧ ∀ base : Heap, FnG P w K mg base CX0 (n + 1) fa fd [x] (spG ⟨K, ct⟩ 1 g) := by
  obtain ⟨f, fd, F, m⟩ := D
  obtain rfl : f = fa := by
    have e := m.symm.trans hmg
    cases e
    rfl
  have b := FunD.bindsA (ps := [x]) F hB
  exact ⟨fd, fun s u => b s [u] rfl, fun base => FunD.okG F hS fun cdv A outer s H E r gd => ⟨_, fun ws S _ => e ws S, h base f cdv A outer s H E r gd⟩⟩
end
end VI
set_option Elab.async false
set_option linter.all false
set_option maxRecDepth 100000
namespace VI
open PySem PySem.Spec PyProof.Rows L2

/-! int(x), x a text too -/
def gIntA (ws : List W) (S : Store) : O := match ws with
  | [.d (.str a)] => match PySem.intText? a with
    | some n => if a.length ≤ 640 then some (.d (.int n), S) else none
    | none => none
  | ws => gInt ws S
theorem c_intA {X : Cx} {ct : Nat → Option Addr} : CallR X (.type "int") (SimL X ct gIntA) := CallR.fit (CallR.or (c_int (X := X) (ct := ct)) call_int_str) fun xs H Q ⟨η, S, ws, rp, rr, q⟩ => by
  unfold gIntA at q
  split at q
  · rename_i a
    obtain ⟨v, rfl, r⟩ := repWs1 rr
    cases e : PySem.intText? a with
    | none => rw [e] at q; exact q.elim
    | some n =>
      rw [e] at q
      have q2 : FinO (gx X ct) η H (if a.length ≤ 640 then some (.d (.int n), S) else none) Q := q
      by_cases hl : a.length ≤ 640
      · rw [if_pos hl] at q2
        cases r with | d r => cases r; exact .inr ⟨a, n, rfl, e, hl, same_val rp (.d (.int _)) q2⟩
      · rw [if_neg hl] at q2
        exact q2.elim
  · exact .inl ⟨η, S, _, rp, rr, q⟩
end VI
set_option Elab.async false
set_option linter.all false
set_option maxRecDepth 100000
namespace VI
open PySem PySem.Spec PyProof.Rows L2

/-! dicts that are only handed on -/
section
variable {X : Cx} {ct : Nat → Option Addr} {E : EX}
theorem i_dct0 {pos : Pos} : PE X (.Dict [] [] pos) (tF (gx X ct) E (fC (.dict []))) := PEw pe_dnewK fun σ H Q ⟨η, ρ, S, rp, er, h⟩ p hp =>
  h η _ _ (fu_new hp) (rp.new hp) (.d (.dct upd_same (rp.notin hp)))
theorem i_dct1 {i j : Int} {k1 k2 : Nat} {pos p1 p2 : Pos} : PE X (.Dict [some (.Constant (.int i) k1 p1)] [.Constant (.int j) k2 p2] pos) (tF (gx X ct) E (fC (.dict []))) :=
  PEw (pe_disp (pps_cons pe_int pe_int pps_nil) rfl rfl (by simp) (by simp)) fun σ H Q ⟨η, ρ, S, rp, er, h⟩ p hp => by
    refine ⟨upd_same, [(.inl i, .int j)], rfl, by simp, ?_⟩
    rw [upd_upd]
    exact h η _ _ (fu_new hp) (rp.new hp) (.d (.dct upd_same (rp.notin hp)))

/-! an own exception made, and handed on -/
def spNo (C : Addr) : Sp := fun vs H Q _ => ∃ a, vs = [.ref a] ∧ H a = some (exo a C none) ∧ Q .non H
structure OwnN (P : Program) (w : World) (K : PySem.W.Frag) (mg : Str → Option Value) (base : Heap) (k : Nat) (x : Str) (C : Addr) : Prop where
  at_ : mg x = some (.ref C)
  T : OexC K C
  init : ∃ (fI : Addr) (fd : FuncData) (ps : List Str), PySem.W.findIn K (.ref C) "__init__" = some (some (.ref fI)) ∧ PySem.W.typeIn K (.ref fI) = some (.type "function") ∧ FnOk P w K mg base CX0 k fI fd ps (spNo C) ∧ Binds K fd ps []
  ot : OwnT K C
def KMake (P : Program) (w : World) (K : PySem.W.Frag) (mg : Str → Option Value) (base : Heap) (x : Str) : Prop := ∃ C, OwnN P w K mg base 1 x C
theorem pe_own0 {k : Nat} {x : Str} {C : Addr} {p pos : Pos} (O : OwnN X.prog X.w X.K X.mg X.base k x C) (hr : Room (k + 1) X.A) (hg : Gl X x) (hdb : (x == ("__debug__" : Str)) = false := by decide) :
    PE X (.Call (.Name x p) [] [] pos) (fun σ H Q => ∀ a, H a = none → Q (.ref a) (upd H a (exo a C none))) := by
  obtain ⟨m, T, ⟨fI, fd, ps, iC, tI, F1, hb⟩, ot⟩ := O
  refine ⟨fun pins s σ H Q I h => ?_⟩
  obtain ⟨nm, q, N, bs, bm, sn, sub, ab, col, dd, k0, k1, k2, k3, k5, hC, hbm⟩ := T.cls
  refine wpAny_Call_Name_kw (ld_glob I hg m ?_ hdb)
  refine PySem.W.callWith_K0 I.kIn T.kC ?_
  show wpAny _ _ (call (.ref C) []) _ _ _
  obtain ⟨hp, g, dr, tk, os⟩ := s
  have hsz : hp.objs.size ≤ hp.objs.size + 1 := Nat.le_succ _
  have hn : H (hp.objs.size + 1) = none := I.hok.fresh hsz
  have kk : ∀ b o, hp.get? b = some o → ((hp.push (PySem.W.kdv_tup [])).push (PySem.HandSPX.excO C hp.objs.size)).get? b = some o := fun b o e => Heap.get?_push_of_some _ (Heap.get?_push_of_some _ e)
  have hget : ((hp.push (PySem.W.kdv_tup [])).push (PySem.HandSPX.excO C hp.objs.size)).get? (hp.objs.size + 1) = some (PySem.HandSPX.excO C hp.objs.size) := by heap_get
  have I2 : Inv X pins σ (upd H (hp.objs.size + 1) (exo (hp.objs.size + 1) C none)) ⟨(hp.push (PySem.W.kdv_tup [])).push (PySem.HandSPX.excO C hp.objs.size), g, dr, tk, os⟩ :=
    I.laid (t' := tk) (a := hp.objs.size + 1) (o := exo (hp.objs.size + 1) C none) (h' := (hp.push (PySem.W.kdv_tup [])).push (PySem.HandSPX.excO C hp.objs.size)) kk hsz (exo_ok hget)
  have r2 : Vals [V.ref (hp.objs.size + 1)] [Value.ref (hp.objs.size + 1)] := .cons rfl .nil
  let Q2 : VK := fun v H' => v = .non ∧ Q (.ref (hp.objs.size + 1)) H'
  have hq : spNo C [V.ref (hp.objs.size + 1)] (upd H (hp.objs.size + 1) (exo (hp.objs.size + 1) C none)) Q2 (fun _ _ _ => False) := ⟨_, rfl, upd_same, rfl, h _ hn⟩
  have hl : ([Value.ref (hp.objs.size + 1)] ++ []).length = ps.length := by
    have e := F1.len _ _ _ _ hq
    simpa using e
  have bnd := hb _ [Value.ref (hp.objs.size + 1)] I2.kIn hl
  rw [List.append_nil] at bnd
  refine wpAny_call (PySem.HandSPX.call_own F.excBase_ValueError (fun Y => PySem.HandSPX.refsVE_contains Y bm hbm) (I.kIn _ _ hC) (PySem.W.looks_findIn I.kIn iC) (fun self => PySem.W.bind_fn I.kIn self tI) (Nat.zero_le _)
    (codeAny_mono (F1.run _ X.stack _ _ ⟨[Value.ref (hp.objs.size + 1)], []⟩ [Value.ref (hp.objs.size + 1)] _ _ (fun _ _ _ => False) (hr.make C [] []) (I2.env0.make C [] []) bnd r2 hq) fun r s' hq' => ?_))
  cases r with
  | error er => exact pass0 pins σ _ _ er s' I2 hq'
  | ok fl =>
    cases fl with
    | ret u =>
      obtain ⟨v, H2, I3, rv, ev, q2⟩ := I2.after hq'
      subst ev
      exact ⟨rv, .ref (hp.objs.size + 1), H2, I3, rfl, q2⟩
    | next => exact False.elim hq'
    | brk => exact False.elim hq'
    | cont => exact False.elim hq'
theorem i_own0 {x : Str} {p pos : Pos} (O : KMake X.prog X.w X.K X.mg X.base x) (hr : Room 2 X.A) (hg : Gl X x := by rfl) (hdb : (x == ("__debug__" : Str)) = false := by decide) : PE X (.Call (.Name x p) [] [] pos) (tF (gx X ct) E (fC (.dict [(.none, .none)]))) := by
  obtain ⟨C, O⟩ := O
  exact PEw (pe_own0 O hr hg hdb) fun σ H Q ⟨η, ρ, S, rp, er, h⟩ a ha => h η _ _ (fu_new ha) (rp.new ha) (.d (.own upd_same (rp.notin ha) O.ot))

/-! isinstance of these too -/
def gIsiA (T : String) (w : W) (S : Store) : O := match w with
  | .d (.dict []) => some (.d (.bool (isT "dict" T)), S)
  | .d (.dict _) => some (.d (.bool false), S)
  | w => gIsi T w S
theorem call_isiO {T : String} (hT : T ∈ tys) : CallR X (.builtin "isinstance") (fun xs H Q => ∃ a C, xs = [.ref a, .ty T] ∧ H a = some (exo a C none) ∧ OwnT X.K C ∧ Q (.bl false) H) := by
  intro pins s σ H xs us Q I r h
  obtain ⟨a, C, rfl, ha, ot, q⟩ := h
  obtain ⟨u1, u2, rfl, r1, r2⟩ := vals2 r
  cases (show u1 = Value.ref a from r1)
  cases (show u2 = Value.type T from r2)
  obtain ⟨t1, hget⟩ := exo_at I.hok ha
  have C1 := ot.exc
  exact PySem.W.kia_one (PySem.W.handS_kitx_exc C1.hg C1.hk C1.hs C1.hd C1.ha C1.hn C1.ht C1.hm) I.kIn ⟨hget, rfl, rfl, trivial⟩ (ot.not T hT) (fun z => nomatch z) fun tk => ⟨.bl false, H, I.kept (t' := tk) fun _ _ z => z, rfl, q⟩
theorem i_isiA (T : String) {x : Str} {e : Expr} {p p2 pos : Pos} {f : FE} (hT : T ∈ tys) (hg : Gl X "isinstance") (hm : X.mg "isinstance" = none) (hx : Gl X x) (hmx : X.mg x = none) (hv : bootBuiltins x = some (.type T)) (he : PE X e (tF (gx X ct) E f)) (hn : x ≠ "__name__" := by decide)
    (hd : (x == ("__debug__" : Str)) = false := by decide) (hs : starEach [e, .Name x p2] X.env = (false, eval e X.env) :: starEach [.Name x p2] X.env := by rfl) (hs2 : starEach [.Name x p2] X.env = (false, eval (.Name x p2) X.env) :: starEach [] X.env := by rfl) (hpl : (backTo pos (starEach [.Name x p2] X.env)).any (·.1) = false := by rfl)
    (hb : bootBuiltins "isinstance" = some (.builtin "isinstance") := by decide +kernel) : PE X (.Call (.Name "isinstance" p) [e, .Name x p2] [] pos) (tF (gx X ct) E (f1 (gIsiA T) f)) :=
  PEw (pe_callB (CallR.or call_isi (call_isiO hT)) hg hm hb (pa_cons he (pa_cons (pe_bltn (v := .ty T) hx hmx hv rfl hn hd) pa_nil hs2) hs) (by decide) (by decide) hs hpl) fun σ H Q ⟨η, ρ, S, rp, er, h⟩ =>
    ⟨η, ρ, S, rp, er, FinR.mono (FinR.bind (rel := relW (gx X ct)) h) fun v H1 ⟨η1, w, S1, f1, rp1, r1, h1⟩ => by
      have h2 : FinP (gx X ct) (E σ) η1 H1 (lift (gIsiA T w S1)) Q := h1
      unfold gIsiA at h2
      split at h2
      · cases r1 with
        | d r1 =>
          cases r1 with
          | dct g1 g2 => exact .inl ⟨_, .ty T, .type "dict", .type T, isT "dict" T, rfl, .ty T, .base (.dK g1), kit_ty (by decide) hT, h2 η1 H1 _ (Fu.refl _ _) rp1 (.d (.bool _))⟩
      · rename_i hne
        cases r1 with
        | d r1 =>
          cases r1 with
          | dct g1 g2 => exact absurd rfl hne
          | own g1 g2 g3 => exact .inr ⟨_, _, rfl, g1, g3, h2 η1 H1 _ (Fu.refl _ _) rp1 (.d (.bool _))⟩
      · cases q : tyW w S1 with
        | none =>
          unfold gIsi at h2
          rw [q] at h2
          exact h2.elim
        | some t =>
          unfold gIsi at h2
          rw [q] at h2
          obtain ⟨ty, ht⟩ := tyW_ok q rp1 r1
          exact .inl ⟨v, .ty T, .type t, .type T, isT t T, rfl, .ty T, ty, kit_ty ht hT, h2 η1 H1 _ (Fu.refl _ _) rp1 (.d (.bool _))⟩⟩

/-! tuple(text) -/
def sigD (z : Str) : List PyData := z.cps.toList.map fun c => PyData.str ⟨#[c]⟩
def gTupleA (ws : List W) (S : Store) : O := match ws with
  | [.d (.str z)] => if z.length ≤ lim then some (.d (.tuple (sigD z)), S) else none
  | ws => gTuple ws S
theorem call_tuple_strX (hc : X.calm = true) : CallR X (.type "tuple") (fun xs H Q => ∃ z, xs = [.str z] ∧ z.length ≤ sizeLine ∧ ∀ l, H l = none → Q (.ref l) (upd H l (.tup (z.cps.toList.map fun c => V.str ⟨#[c]⟩)))) := by
  intro pins s σ H xs us Q I r h
  obtain ⟨z, rfl, hz, h⟩ := h
  obtain ⟨u, rfl, rx⟩ := vals1 r
  obtain ⟨t, rfl⟩ := (show ∃ t, u = Value.str z t from rx)
  refine call_tuple_str (hsz := hz) (I.ok.hd hc) z t fun h' tk acc kp it => ?_
  have I1 : Inv X pins σ H { s with heap := h', toks := tk } := I.kept (t' := tk) kp
  have rv : Vals (z.cps.toList.map fun c => V.str ⟨#[c]⟩) acc.toList := by
    refine vals_of_idx _ _ (by rw [List.length_map, Array.length_toList, Array.length_toList]; exact it.1) fun j v hv => ?_
    obtain ⟨c, u, hc, rfl⟩ := it.2 j v (by simpa using hv)
    exact ⟨.str ⟨#[c]⟩, by simp [hc], u, rfl⟩
  refine ⟨.ref h'.objs.size, _, I1.laid (a := h'.objs.size) (o := .tup (z.cps.toList.map fun c => V.str ⟨#[c]⟩)) (t' := tk) (fun b o e => Heap.get?_push_of_some _ e) (Nat.le_refl _) ⟨by rw [List.length_map, Array.length_toList]; exact hz, acc.toList, rv, ⟨_, Heap.get?_push_size _ rfl, rfl, 0, by simp⟩⟩, rfl, h _ (I1.hok.fresh (Nat.le_refl _))⟩
theorem sig_rep {K : PySem.W.Frag} {η : List Addr} {H : Hp} : ∀ l : List Nat, RepDs K η H (l.map fun c => PyData.str ⟨#[c]⟩) (l.map fun c => V.str ⟨#[c]⟩)
  | [] => .nil
  | c :: l => .cons (.str _) (sig_rep l)
theorem c_tupleA (hc : X.calm = true := by rfl) : CallR X (.type "tuple") (SimL X ct gTupleA) := CallR.fit (CallR.or c_tuple (call_tuple_strX hc)) fun xs H Q ⟨η, S, ws, rp, rr, q⟩ => by
  unfold gTupleA at q
  split at q
  · rename_i z
    obtain ⟨v, rfl, r⟩ := repWs1 rr
    split at q
    · rename_i hz
      cases r with | d r => cases r; exact .inr ⟨z, rfl, lim_ok hz, new_tup rp (sig_rep _) q⟩
    · exact q.elim
  · exact .inl ⟨η, S, _, rp, rr, q⟩

/-! a text so many times -/
def mulOk (x : Str) (n : Int) : Bool := decide (1 < n) && decide (n ≤ 1000) && decide (x.length * n.toNat ≤ 1000)
theorem mulOk_ok {x : Str} {n : Int} (h : mulOk x n = true) : MulOk x n := by
  unfold mulOk at h
  simp only [Bool.and_eq_true, decide_eq_true_eq] at h
  obtain ⟨⟨h1, h2⟩, h3⟩ := h
  have hn : n = (n.toNat : Int) := (Int.toNat_of_nonneg (by omega)).symm
  have hx : x.length ≤ 1000 := by
    refine Nat.le_trans ?_ h3
    exact Nat.le_mul_of_pos_right _ (by omega)
  refine ⟨by simp only [Bool.or_eq_false_iff, decide_eq_false_iff_not]; omega, fun _ _ => ?_, fun _ _ => ?_⟩
  · have : 1000 ≤ ((2 : Int) ^ 63 - 1) / n := Int.le_ediv_of_mul_le (by omega) (by
      have : (2 : Int) ^ 63 - 1 = 9223372036854775807 := by decide
      rw [this]
      omega)
    omega
  · unfold Builtin.Str.tooLong
    simp only [decide_eq_false_iff_not]
    have := sizeLine_eq
    omega
def gMulT (a b : W) (S : Store) : O := match a, b with
  | .d (.str x), .d (.int n) => if mulOk x n = true then some (.d (.str (Txt.mul x n)), S) else none
  | _, _ => none
def gMulA (a b : W) (S : Store) : O := match gMulT a b S with
  | some o => some o
  | none => gMul a b S
theorem op_mulT : OpR X (binaryOp .Mult) (fun x y H Q => ∃ z n, x = .str z ∧ y = .int n ∧ MulOk z n ∧ Q (.str (Txt.mul z n)) H) := by
  intro pins s σ H x y u v Q I rx ry h
  obtain ⟨z, n, rfl, rfl, hm, q⟩ := h
  obtain ⟨t, rfl⟩ := (show ∃ t, u = Value.str z t from rx)
  obtain ⟨t2, rfl⟩ := (show ∃ t, v = Value.int n t from ry)
  exact SB.mul hm fun t' k => ⟨.str _, H, I.tok k, ⟨_, rfl⟩, q⟩
theorem sim_mulT : OpR X (binaryOp .Mult) (Sim2 X ct gMulT) := OpR.fit op_mulT fun x y H Q ⟨η, S, wx, wy, rp, rx, ry, h⟩ => by
  unfold gMulT at h
  split at h
  · split at h
    · rename_i hm
      cases rx with
      | d rx =>
        cases ry with
        | d ry =>
          cases rx
          cases ry
          exact ⟨_, _, rfl, rfl, mulOk_ok hm, same_val rp (.d (.str _)) h⟩
    · exact h.elim
  · exact h.elim
theorem sim_mulA : OpR X (binaryOp .Mult) (Sim2 X ct gMulA) := OpR.orElse sim_mulT sim_mul

/-! list + list, to be changed later -/
def gAddL (a b : W) (S : Store) : O := match asL a S, asL b S with
  | some xs, some ys => if xs.length + ys.length ≤ lim then some (.loc S.length, S ++ [.lst (xs ++ ys)]) else none
  | _, _ => none
theorem sim_addL : OpR X (binaryOp .Add) (Sim2 X ct gAddL) := OpR.fit op_cat fun x y H Q ⟨η, S, wx, wy, rp, rx, ry, h⟩ => by
  unfold gAddL at h
  split at h
  · rename_i xs ys e1 e2
    obtain ⟨a, vs, rfl, h1, h2⟩ := asL_ok e1 rp rx
    obtain ⟨b, us, rfl, h3, h4⟩ := asL_ok e2 rp ry
    split at h
    · rename_i hl
      exact ⟨a, b, vs, us, rfl, rfl, h1, h3, lim_ok (by rw [← h2.length, ← h4.length]; exact hl), new_live rp (h2.append h4) h⟩
    · exact h.elim
  · exact h.elim

/-! a call where something may be raised, its live objects going on -/
variable {n k : Nat} {CX : CXT} {x : Str} {ps : List Str} {g : List W → Store → R W} {p pos : Pos} {e : Expr} {es : List Expr} {fa : FA}
theorem cCallEL (C : CalleeC CX X.prog X.w X.K X.mg X.base ct k x ps g) (px : ∀ σ, PassesAt CX X σ (E σ)) (room : Room k X.A) (gd : X.A.guards = some []) (ha : PA X (e :: es) (tA (gx X ct) E fa)) (hn : ps.length = n := by rfl) (hg : Gl X x := by rfl) (hdb : (x == ("__debug__" : Str)) = false := by decide)
    (he : starEach (e :: es) X.env = (false, eval e X.env) :: starEach es X.env := by rfl) (hpl : (backTo pos (starEach es X.env)).any (·.1) = false := by rfl) : PE X (.Call (.Name x p) (e :: es) [] pos) (tF (gx X ct) E (fCallL n g fa)) := by
  obtain ⟨f, fd, F, m, kp, bn⟩ := C
  subst hn
  refine ⟨fun pins s σ H Q inv ⟨η, ρ, S, rp, er, h⟩ => ?_⟩
  refine wpAny_Call_Name_kw (ld_glob inv hg m ?_ hdb)
  refine PySem.W.callWith_K (h₀ := X.base) inv.ok.mod.kin kp (thn (ha.run pos pins s σ H _ inv ⟨η, ρ, S, rp, er, FinR.bind (rel := relL (gx X ct)) h⟩) fun us s1 ⟨vs, H1, inv1, rel, η1, ws, S1, f1, rp1, r1, h1⟩ => ⟨inv1.kIn, ?_⟩) he hpl
  have h2 : FinP (gx X ct) (E σ) η1 H1 (if ws.length = ps.length then g ws S1 else .bad) Q := h1
  by_cases hw : ws.length = ps.length
  · rw [if_pos hw] at h2
    exact run_E F room gd bn (px σ) inv1 rel ⟨by rw [← r1.length]; exact hw, η1, S1, ws, rp1, r1, h2⟩
  · rw [if_neg hw] at h2
    exact h2.elim
end
section
variable {P : Program} {w : World} {K : PySem.W.Frag} {mg : Str → Option Value} {base : Heap} {ct : Nat → Option Addr} {n : Nat} {x : Str} {st : Stmt} {N ps : List Str} {g : List W → Store → R W} {b : FS}
theorem callee2_succ (D : DefAt K mg x st) (hB : Bnd x st ps) (hS : FnScope N ps (defScope st)) (e : ∀ ws S, g ws S = if 2 ≤ n then runB N.length b ws S else .bad)
    (h : 2 ≤ n → ∀ (f : Addr) (cdv : Value) (A : Around) (outer : List Env) (s : Shared) (H : Hp) (E : XK), Room n (A.deeper (envOfC x (defScope st) s.heap.objs.size f cdv)) → A.guards = some [] → PSs (bodyX P w K mg base N x (defScope st) f cdv A outer s H E) (defBody st) (tS ⟨K, ct⟩ NX b)) :
    Callee P w K mg base ct (n + 1) x ps g := by
  by_cases h2 : 2 ≤ n
  · exact callee_succ D hB hS (fun ws S => by rw [e, if_pos h2]) (h h2)
  · exact callee_zero D hB fun ws S => by rw [e, if_neg h2]
/-- the law by its body, where it makes own things -/
theorem law2_of {y : Str} {nm : Str} {fa : Addr} (h2 : 2 ≤ n) (D : DefAt K mg nm st) (hB : Bnd nm st [y]) (hmg : mg nm = some (.ref fa)) (hS : FnScope N [y] (defScope st)) (e : ∀ ws S, g ws S = if 2 ≤ n then runB N.length b ws S else .bad)
    (h : ∀ (base : Heap) (f : Addr) (cdv : Value) (A : Around) (outer : List Env) (s : Shared) (H : Hp) (E : XK), Room n (A.deeper (envOfC nm (defScope st) s.heap.objs.size f cdv)) → A.guards = some [] → PSs (bodyX P w K mg base N nm (defScope st) f cdv A outer s H E) (defBody st) (tS ⟨K, ct⟩ NX b)) :
    ∃ fd : FuncData, (∀ (s : Shared) (u : Value), BindsTo s fd ⟨[u], []⟩ [(y, u)]) ∧ ∀ base : Heap, FnG P w K mg base CX0 (n + 1) fa fd [y] (spG ⟨K, ct⟩ 1 g) :=
  law_of D hB hmg hS (fun ws S => by rw [e, if_pos h2]) h
end
end VI
set_option Elab.async false
set_option linter.all false
set_option maxRecDepth 100000
namespace VI
open PySem PySem.Spec PyProof.Rows L2

/-! an own class without fields, from the head's facts -/
def otB (K : PySem.W.Frag) (C : Addr) : Bool :=
  decide (PySem.W.findIn K (.ref C) "__getattribute__" = some (some (.builtin "BaseException.__getattribute__"))) && (decide (PySem.W.findIn K (.ref C) "__getattr__" = some none) && (decide (PySem.W.subIn K (.ref C) (.type "BaseException") = some true) && (PySem.W.hasDictIn K C &&
  (decide (PySem.W.findIn K (.ref C) "__class__" = some (some (.builtin "object.__class__"))) && (decide (PySem.W.specialIn K (.builtin "object.__class__") "__get__" = some (some (.builtin "getset_descriptor.__get__"))) && (decide (PySem.W.takesIn K (.builtin "object.__class__") = some true) && (decide (PySem.W.mroIn K C (.type "object") = some true) &&
  tys.all fun T => decide (PySem.W.kitOne K (.ref C) (.type T) = some false))))))))
theorem otB_ok {K : PySem.W.Frag} {C : Addr} (h : otB K C = true) : OwnT K C := by
  obtain ⟨h1, h⟩ := He.ba h
  obtain ⟨h2, h⟩ := He.ba h
  obtain ⟨h3, h⟩ := He.ba h
  obtain ⟨h4, h⟩ := He.ba h
  obtain ⟨h5, h⟩ := He.ba h
  obtain ⟨h6, h⟩ := He.ba h
  obtain ⟨h7, h⟩ := He.ba h
  obtain ⟨h8, h⟩ := He.ba h
  exact ⟨⟨of_decide_eq_true h1, of_decide_eq_true h2, of_decide_eq_true h3, h4, of_decide_eq_true h5, of_decide_eq_true h6, of_decide_eq_true h7, of_decide_eq_true h8⟩, fun T m => of_decide_eq_true (List.all_eq_true.mp h T m)⟩
section
variable {K : PySem.W.Frag} {h : Heap} {mg : Str → Option Value} {fas : List He.Fa} {fns : List He.DefD} {P : Program} {w : World} {base : Heap} {k : Nat} {C fI : Addr} {fd : FuncData}
theorem init_no {qual : Str} {pr : Arguments} {body : List Stmt} {sc : Scope} (F : FunD K "__init__" qual pr body sc [] [] fI fd) (hS : FnScope ["self"] ["self"] sc)
    (hb : ∀ (cdv : Value) (A : Around) (outer : List Env) (s : Shared) (H : Hp) (E : XK), PSs (cxOf CX0 P w K mg base ["self"] qual sc fI cdv A outer s H E) body (fun D σ H => D.nx σ H)) :
    FnOk P w K mg base CX0 (k + 1) fI fd ["self"] (spNo C) := by
  refine FunD.ok F hS (fun vs H Q E h => ?_) fun cdv A outer s H vs Q E hr h => ?_
  · obtain ⟨a, rfl, _⟩ := h
    rfl
  · obtain ⟨a, rfl, _, q⟩ := h
    exact ⟨_, hb cdv A outer s H E, q⟩
theorem ownN_of {x qual : Str} {pr : Arguments} {body : List Stmt} {sc : Scope} (X : K.In h) (G : h.Ns mainGlobals mg) (c : (He.Fa.glo x).ok K = true) (T : oexB K (He.ga K x) = true) (ot : otB K (He.ga K x) = true) (m : (He.Fa.meth x "__init__").ok K = true) (ty : decide (PySem.W.typeIn K (.ref (He.ma K (He.ga K x) "__init__")) = some (.type "function")) = true)
    (F : ∃ fd, FunD K "__init__" qual pr body sc [] [] (He.ma K (He.ga K x) "__init__") fd) (hS : FnScope ["self"] ["self"] sc)
    (hB : ∀ (kV doc pm : Value) (an : Option Addr) (cdv ct : Value) (us : List Value), us.length = 1 → bindArgs (PySem.W.fnOf "__init__" qual pr body sc .none kV doc pm an cdv ct) ⟨us, []⟩ = pure ((["self"] : List Str).zip us))
    (hb : ∀ (cdv : Value) (A : Around) (outer : List Env) (s : Shared) (H : Hp) (E : XK), PSs (cxOf CX0 P w K mg base ["self"] qual sc (He.ma K (He.ga K x) "__init__") cdv A outer s H E) body (fun D σ H => D.nx σ H)) : KMake P w K mg base x := by
  obtain ⟨fd, F⟩ := F
  exact ⟨_, He.glo_ok X G c, oexB_ok T, ⟨_, fd, _, (He.meth_ok m).at_, of_decide_eq_true ty, init_no (k := 0) F hS hb, F.bindsN hB⟩, otB_ok ot⟩
theorem pass_body {X : Cx} {pos : Pos} : PSs X [.Pass pos] (fun D σ H => D.nx σ H) := PSsw (pss_one ps_pass) fun D σ H h => h
end
end VI
set_option Elab.async false
set_option linter.all false
set_option maxRecDepth 100000
namespace VI
open PySem PySem.Spec PyProof.Rows L2

/-! a body evaluated -/
section
variable {g : W → W → Store → O} {h : W → Store → O} {a b : FE} {fa : FA} {t : FT} {p q : FS} {ρ ρ1 : Rho} {S S1 S2 S3 : Store} {x y z : W}
theorem ev_var {i : Nat} (e : ρ[i]? = some (some x)) : fVar i ρ S = .ok x S := by unfold fVar; rw [e]
theorem ev_f2 (ea : a ρ S = .ok x S1) (eb : b ρ S1 = .ok y S2) (e : g x y S2 = some (z, S3)) : f2 g a b ρ S = .ok z S3 := by
  unfold f2
  rw [ea]
  show (b ρ S1).bind _ = _
  rw [eb]
  show lift (g x y S2) = _
  rw [e]
  rfl
theorem ev_f1 (ea : a ρ S = .ok x S1) (e : h x S1 = some (z, S2)) : f1 h a ρ S = .ok z S2 := by
  unfold f1
  rw [ea]
  show lift (h x S1) = _
  rw [e]
  rfl
theorem ev_L {k : List W → Store → O} {ws : List W} (ea : fa ρ S = .ok ws S1) (e : k ws S1 = some (z, S2)) : fL k fa ρ S = .ok z S2 := by
  unfold fL
  rw [ea]
  show lift (k ws S1) = _
  rw [e]
  rfl
theorem ev_ac {ws : List W} (ea : a ρ S = .ok x S1) (er : fa ρ S1 = .ok ws S2) : fAc a fa ρ S = .ok (x :: ws) S2 := by
  unfold fAc
  rw [ea]
  show (fa ρ S1).bind _ = _
  rw [er]
  rfl
theorem ev_one (ea : a ρ S = .ok x S1) : fAc a fA0 ρ S = .ok [x] S1 := ev_ac ea rfl
theorem ev_seq (ep : p ρ S = .next ρ1 S1) : fSeq p q ρ S = q ρ1 S1 := by unfold fSeq; rw [ep]
theorem ev_test {k : Bool} (ea : a ρ S = .ok (.d (.bool k)) S1) : fTest a ρ S = .ok k S1 := by unfold fTest; rw [ea]; rfl
theorem ev_yes (et : t ρ S = .ok true S1) : fIf t p q ρ S = p ρ S1 := by unfold fIf; rw [et]; rfl
theorem ev_no (et : t ρ S = .ok false S1) : fIf t p q ρ S = q ρ S1 := by unfold fIf; rw [et]; rfl
theorem ev_asg {i : Nat} (ea : a ρ S = .ok x S1) : fAsg a (gtName i) ρ S = .next (ρ.set i (some x)) S1 := by unfold fAsg; rw [ea]; rfl
theorem ev_ret (ea : a ρ S = .ok x S1) : fRet a ρ S = .ret x S1 := by unfold fRet; rw [ea]; rfl
theorem ev_store {fo fi fe : FE} {o i v : W} {S4 : Store} (ee : fe ρ S = .ok v S1) (eo : fo ρ S1 = .ok o S2) (ei : fi ρ S2 = .ok i S3) (es : gSet o i v S3 = some S4) : fStore fe fo fi ρ S = .next ρ S4 := by
  unfold fStore
  rw [ee]
  show toS ρ (fo ρ S1) _ = _
  rw [eo]
  show toS ρ (fi ρ S2) _ = _
  rw [ei]
  show (match gSet o i v S3 with | some S4 => RF.next ρ S4 | none => RF.bad) = _
  rw [es]
theorem ev_augAt {fo fi fe : FE} {o i v : W} {old : PyData} {S4 S5 : Store} (eo : fo ρ S = .ok o S1) (ei : fi ρ S1 = .ok i S2) (eg : gAt o i S2 = some old) (ee : fe ρ S2 = .ok v S3) (ex : g (.d old) v S3 = some (z, S4)) (es : gSet o i z S4 = some S5) : fAugAt fo fi g fe ρ S = .next ρ S5 := by
  unfold fAugAt
  rw [eo]
  show toS ρ (fi ρ S1) _ = _
  rw [ei]
  show (match gAt o i S2 with | some old => _ | none => _) = _
  rw [eg]
  show toS ρ (fe ρ S2) _ = _
  rw [ee]
  show (match g (.d old) v S3 with | some (z, S4) => _ | none => _) = _
  rw [ex]
  show (match gSet o i z S4 with | some S5 => RF.next ρ S5 | none => RF.bad) = _
  rw [es]
theorem ev_I2 {C : Int → Int → Bool} {f : Int → Int → PyData} {i j : Int} (c : C i j = true) : gI2 C f (.d (.int i)) (.d (.int j)) S = some (.d (f i j), S) := by unfold gI2; exact if_pos c
theorem ev_mulA {i j : Int} (c : decide (i.natAbs.log2 + j.natAbs.log2 < 1000000) = true) : gMulA (.d (.int i)) (.d (.int j)) S = some (.d (.int (i * j)), S) := by
  show gMul (.d (.int i)) (.d (.int j)) S = _
  exact ev_I2 c
theorem ev_eqI {i j : Int} : gEq (.d (.int i)) (.d (.int j)) S = some (.d (.bool (decide (i = j))), S) := by
  have e : PyData.eqv (.int i) (.int j) = decide (i = j) := by
    by_cases h : i = j
    · subst h; simp [PyData.eqv]
    · simp [PyData.eqv, h]
  show (if SeqAt.shaped (.int i) = true ∧ SeqAt.shaped (.int j) = true then some (W.d (.bool (PyData.eqv (.int i) (.int j))), S) else none) = _
  rw [if_pos ⟨rfl, rfl⟩, e]
end
/-! the bag: what it holds, a number taken of it -/
structure Bag where
  b0 : Int
  b1 : Int
  b2 : Nat
  cs : List Int
def Bag.so (b : Bag) : SO := .lst [.int b.b0, .int b.b1, .int (b.b2 : Int), .list (b.cs.map PyData.int)]
structure Bag.Ok (b : Bag) : Prop where
  h0 : 0 ≤ b.b0
  h1 : 0 ≤ b.b1 ∧ b.b1 < 2147483647
  h2 : ∀ c ∈ b.cs, 0 ≤ c
noncomputable def bTake : FS := (fSeq (fIf (fTest (f2 gEq (f2 gIx (fVar 0) (fC (.int 0))) (fC (.int 0)))) (fSeq (fAsg (f2 gIx (f2 gAdd (fSl gSlA (f2 gIx (fVar 0) (fC (.int 3))) (fPart (f2 gIx (fVar 0) (fC (.int 2)))) fNoPart) (fL gLst (fAc (fC (.int 0)) fA0))) (fC (.int 0))) (gtName 2)) (fSeq (fAugAt (fVar 0) (fC (.int 2)) (gI2 (fun _ _ => true) fun i j => .int (i + j)) (fC (.int 1))) (fSeq (fIf (fTest (f2 gGe (fVar 2) (f2 gPow (fC (.int 10)) (fC (.int 18))))) (fStore (fVar 2) (fVar 0) (fC (.int 0))) fNext) (fSeq (fAsg (f2 gAdd (f2 gAdd (f2 gMulA (f2 gIx (fVar 0) (fC (.int 1))) (fC (.int 48271))) (f2 gMod (fL gIntA (fAc (fVar 2) fA0)) (fC (.int 2147483647)))) (f2 gMulA (fC (.int 7919)) (f2 gIx (fVar 0) (fC (.int 2))))) (gtName 3)) (fStore (f2 gMod (fL gIntA (fAc (fVar 3) fA0)) (fC (.int 2147483647))) (fVar 0) (fC (.int 1))))))) fNext) (fSeq (fIf (fTest (f2 gGt (f2 gIx (fVar 0) (fC (.int 0))) (fC (.int 0)))) (fSeq (fAsg (f2 gMod (fL gIntA (fAc (f2 gIx (fVar 0) (fC (.int 0))) fA0)) (fVar 1)) (gtName 4)) (fSeq (fStore (f2 gDiv (fL gIntA (fAc (f2 gIx (fVar 0) (fC (.int 0))) fA0)) (fVar 1)) (fVar 0) (fC (.int 0))) (fRet (fVar 4)))) fNext) (fSeq (fAsg (f2 gMod (fL gIntA (fAc (f2 gMulA (f2 gAdd (f2 gIx (fVar 0) (fC (.int 1))) (fC (.int 1))) (fC (.int 39373))) fA0)) (fC (.int 1000000007))) (gtName 5)) (fSeq (fAsg (f2 gMod (fL gIntA (fAc (f2 gMulA (f2 gMod (fL gIntA (fAc (f2 gMulA (fVar 5) (fVar 5)) fA0)) (fC (.int 998244353))) (fC (.int 30011))) fA0)) (fC (.int 998244353))) (gtName 6)) (fRet (f2 gMod (fL gIntA (fAc (f2 gDiv (fVar 6) (fC (.int 7))) fA0)) (fVar 1)))))))
/-- a number taken: what, and the bag then -/
def Bag.step (b : Bag) : Bag :=
  if b.b0 = 0 then ⟨if 1000000000000000000 ≤ b.cs.getD b.b2 0 then b.cs.getD b.b2 0 else 0, (b.b1 * 48271 + b.cs.getD b.b2 0 % 2147483647 + 7919 * ((b.b2 : Int) + 1)) % 2147483647, b.b2 + 1, b.cs⟩ else b
def Bag.take (b : Bag) (m : Int) : Int × Bag :=
  if 0 < b.step.b0 then (b.step.b0 % m, { b.step with b0 := b.step.b0 / m })
  else (((b.step.b1 + 1) * 39373 % 1000000007 * ((b.step.b1 + 1) * 39373 % 1000000007) % 998244353 * 30011 % 998244353 / 7) % m, b.step)
theorem bag_rd {ρ : Rho} {S : Store} {l : Nat} {b : Bag} (hρ : ρ[0]? = some (some (.loc l))) (hS : S[l]? = some b.so) :
    f2 gIx (fVar 0) (fC (.int 0)) ρ S = .ok (.d (.int b.b0)) S ∧ f2 gIx (fVar 0) (fC (.int 1)) ρ S = .ok (.d (.int b.b1)) S ∧ f2 gIx (fVar 0) (fC (.int 2)) ρ S = .ok (.d (.int (b.b2 : Int))) S ∧ f2 gIx (fVar 0) (fC (.int 3)) ρ S = .ok (.d (.list (b.cs.map PyData.int))) S := by
  have e : asSeq (.loc l) S = some [.int b.b0, .int b.b1, .int (b.b2 : Int), .list (b.cs.map PyData.int)] := by simp [asSeq, hS, Bag.so]
  refine ⟨?_, ?_, ?_, ?_⟩ <;> simp [f2, fVar, hρ, fC, R.bind, gIx, e, lift, atI, ixN]
def tkA : FS := (fSeq (fAsg (f2 gIx (f2 gAdd (fSl gSlA (f2 gIx (fVar 0) (fC (.int 3))) (fPart (f2 gIx (fVar 0) (fC (.int 2)))) fNoPart) (fL gLst (fAc (fC (.int 0)) fA0))) (fC (.int 0))) (gtName 2)) (fSeq (fAugAt (fVar 0) (fC (.int 2)) (gI2 (fun _ _ => true) fun i j => .int (i + j)) (fC (.int 1))) (fSeq (fIf (fTest (f2 gGe (fVar 2) (f2 gPow (fC (.int 10)) (fC (.int 18))))) (fStore (fVar 2) (fVar 0) (fC (.int 0))) fNext) (fSeq (fAsg (f2 gAdd (f2 gAdd (f2 gMulA (f2 gIx (fVar 0) (fC (.int 1))) (fC (.int 48271))) (f2 gMod (fL gIntA (fAc (fVar 2) fA0)) (fC (.int 2147483647)))) (f2 gMulA (fC (.int 7919)) (f2 gIx (fVar 0) (fC (.int 2))))) (gtName 3)) (fStore (f2 gMod (fL gIntA (fAc (fVar 3) fA0)) (fC (.int 2147483647))) (fVar 0) (fC (.int 1)))))))
/-- the next cell, 0 behind the last -/
theorem cut_cell {ρ : Rho} {S : Store} {l : Nat} {b : Bag} (hρ : ρ[0]? = some (some (.loc l))) (hS : S[l]? = some b.so) (hl : b.cs.length < 1000) :
    f2 gIx (f2 gAdd (fSl gSlA (f2 gIx (fVar 0) (fC (.int 3))) (fPart (f2 gIx (fVar 0) (fC (.int 2)))) fNoPart) (fL gLst (fAc (fC (.int 0)) fA0))) (fC (.int 0)) ρ S = .ok (.d (.int (b.cs.getD b.b2 0))) S := by
  obtain ⟨h0, h1, h2, h3⟩ := bag_rd hρ hS
  have hc : cutG (b.cs.map PyData.int) (some (b.b2 : Int)) none = (b.cs.drop b.b2).map PyData.int := by
    unfold cutG
    rw [List.map_drop]
    have e1 : HT.sIx (b.cs.map PyData.int).length 0 (some (b.b2 : Int)) = min b.b2 (b.cs.map PyData.int).length := HT.sIx_nat _ _ _
    rw [e1, HT.sIx_none, List.length_map]
    by_cases h : b.b2 ≤ b.cs.length
    · rw [Nat.min_eq_left h, List.take_of_length_le (by rw [List.length_drop, List.length_map]; exact Nat.le_refl _)]
    · rw [Nat.min_eq_right (by omega), List.drop_of_length_le (by rw [List.length_map]; exact Nat.le_refl _), List.drop_of_length_le (by rw [List.length_map]; omega)]
      rw [List.take_nil]
  have hd : ∀ xs : List Int, ((xs.map PyData.int) ++ [PyData.int 0])[0]? = some (.int (xs.getD 0 0)) := fun xs => by cases xs <;> simp
  have hg : (b.cs.drop b.b2).getD 0 0 = b.cs.getD b.b2 0 := by simp [List.getD_eq_getElem?_getD]
  have hz : (b.cs.drop b.b2).length + 1 ≤ lim := by rw [List.length_drop]; show _ ≤ 16777216; omega
  have e1 : fSl gSlA (f2 gIx (fVar 0) (fC (.int 3))) (fPart (f2 gIx (fVar 0) (fC (.int 2)))) fNoPart ρ S = .ok (.d (.list ((b.cs.drop b.b2).map PyData.int))) S := by
    simp only [fSl, h3, R.bind, fPart, h2, intOf, fNoPart, gSlA, gSl, asSeq, hc, lift]
  have e2 : fL gLst (fAc (fC (.int 0)) fA0) ρ S = .ok (.d (.list [.int 0])) S := ev_L (ev_one rfl) rfl
  have e3 : gAdd (.d (.list ((b.cs.drop b.b2).map PyData.int))) (.d (.list [.int 0])) S = some (.d (.list ((b.cs.drop b.b2).map PyData.int ++ [.int 0])), S) := by
    simp only [gAdd, asL, List.length_map, List.length_cons, List.length_nil]
    rw [if_pos hz]
  have e4 : atI ((b.cs.drop b.b2).map PyData.int ++ [PyData.int 0]) 0 = some (.int (b.cs.getD b.b2 0)) := by
    rw [← hg, ← hd]
    simp [atI, ixN]
  exact ev_f2 (ev_f2 e1 e2 e3) rfl (by simp only [gIx, asSeq, e4, Option.map])
/-- a store into the bag, a member counted up -/
theorem bag_set {S : Store} {l : Nat} {b : Bag} (hS : S[l]? = some b.so) (i : Int) :
    gSet (.loc l) (.d (.int 0)) (.d (.int i)) S = some (S.set l ({ b with b0 := i } : Bag).so) ∧ gSet (.loc l) (.d (.int 1)) (.d (.int i)) S = some (S.set l ({ b with b1 := i } : Bag).so) := by
  constructor <;> (unfold gSet; simp only [hS, Bag.so]; rfl)
theorem bag_up {S : Store} {l : Nat} {b : Bag} (hS : S[l]? = some b.so) :
    gAt (.loc l) (.d (.int 2)) S = some (.int (b.b2 : Int)) ∧ gSet (.loc l) (.d (.int 2)) (.d (.int ((b.b2 : Int) + 1))) S = some (S.set l ({ b with b2 := b.b2 + 1 } : Bag).so) := by
  constructor
  · unfold gAt
    simp only [hS, Bag.so]
    rfl
  · unfold gSet
    simp only [hS, Bag.so]
    rfl
theorem at_set {S : Store} {l : Nat} {o u : SO} (hS : S[l]? = some o) : (S.set l u)[l]? = some u := List.getElem?_set_self (List.getElem?_eq_some_iff.mp hS).1
theorem bag_mul {i j : Int} {n m : Nat} (hi : i.natAbs < 2 ^ n) (hj : j.natAbs < 2 ^ m) (h : n + m < 1000000) : decide (i.natAbs.log2 + j.natAbs.log2 < 1000000) = true := by
  have l1 : ∀ {k p : Nat}, k < 2 ^ p → k.log2 ≤ p := fun {k p} hk => by
    by_cases z : k = 0
    · subst z; rw [Nat.log2_zero]; exact Nat.zero_le _
    · exact Nat.le_of_lt ((Nat.log2_lt z).mpr hk)
  have a := l1 hi
  have b := l1 hj
  exact decide_eq_true (by omega)
/-- the bag stirred -/
theorem stir_run {ρ : Rho} {S : Store} {l : Nat} {b : Bag} (hρ : ρ[0]? = some (some (.loc l))) (h7 : ρ.length = 7) (hS : S[l]? = some b.so) (h0 : b.b0 = 0) (h1 : 0 ≤ b.b1 ∧ b.b1 < 2147483647) (h2 : b.b2 < 2 ^ 60) (hl : b.cs.length < 1000) :
    ∃ u v, tkA ρ S = .next ((ρ.set 2 u).set 3 v) (S.set l b.step.so) := by
  have hc := cut_cell hρ hS hl
  have at0 : ∀ {w : Option W} {i : Nat}, (ρ.set (i + 1) w)[0]? = some (some (.loc l)) := fun {w i} => by rw [List.getElem?_set_ne (by omega)]; exact hρ
  let c := b.cs.getD b.b2 0
  have q1 := (at0 (w := some (.d (.int c))) (i := 1))
  have s1 : fAsg (f2 gIx (f2 gAdd (fSl gSlA (f2 gIx (fVar 0) (fC (.int 3))) (fPart (f2 gIx (fVar 0) (fC (.int 2)))) fNoPart) (fL gLst (fAc (fC (.int 0)) fA0))) (fC (.int 0))) (gtName 2) ρ S = .next (ρ.set 2 (some (.d (.int c)))) S := ev_asg hc
  have v2 : (ρ.set 2 (some (W.d (.int c))))[2]? = some (some (.d (.int c))) := List.getElem?_set_self (by omega)
  have s2 : fAugAt (fVar 0) (fC (.int 2)) (gI2 (fun _ _ => true) fun i j => .int (i + j)) (fC (.int 1)) (ρ.set 2 (some (.d (.int c)))) S = .next (ρ.set 2 (some (.d (.int c)))) (S.set l ({ b with b2 := b.b2 + 1 } : Bag).so) :=
    ev_augAt (ev_var q1) rfl (bag_up hS).1 rfl (ev_I2 rfl) (bag_up hS).2
  have hS2 := at_set (u := ({ b with b2 := b.b2 + 1 } : Bag).so) hS
  have tst : fTest (f2 gGe (fVar 2) (f2 gPow (fC (.int 10)) (fC (.int 18)))) (ρ.set 2 (some (.d (.int c)))) (S.set l ({ b with b2 := b.b2 + 1 } : Bag).so) = .ok (decide (1000000000000000000 ≤ c)) (S.set l ({ b with b2 := b.b2 + 1 } : Bag).so) := by
    refine ev_test (ev_f2 (ev_var v2) (ev_f2 rfl rfl (ev_I2 (by decide))) (ev_I2 rfl))
  -- the cell put in
  have s3 : fIf (fTest (f2 gGe (fVar 2) (f2 gPow (fC (.int 10)) (fC (.int 18))))) (fStore (fVar 2) (fVar 0) (fC (.int 0))) fNext (ρ.set 2 (some (.d (.int c)))) (S.set l ({ b with b2 := b.b2 + 1 } : Bag).so)
      = .next (ρ.set 2 (some (.d (.int c)))) (S.set l ({ b with b2 := b.b2 + 1, b0 := if 1000000000000000000 ≤ c then c else 0 } : Bag).so) := by
    by_cases hc18 : 1000000000000000000 ≤ c
    · rw [decide_eq_true hc18] at tst
      rw [ev_yes tst, if_pos hc18, ev_store (ev_var v2) (ev_var q1) rfl (bag_set hS2 c).1, List.set_set]
    · rw [decide_eq_false hc18] at tst
      rw [ev_no tst, if_neg hc18]
      show RF.next _ _ = _
      congr 2
      rw [← h0]
  let b3 : Bag := { b with b2 := b.b2 + 1, b0 := if 1000000000000000000 ≤ c then c else 0 }
  have hS3 : (S.set l b3.so)[l]? = some b3.so := at_set hS
  have r3 := bag_rd q1 hS3
  have m1 : decide (b.b1.natAbs.log2 + (48271 : Int).natAbs.log2 < 1000000) = true := bag_mul (n := 31) (m := 16) (by omega) (by decide) (by decide)
  have m2 : decide ((7919 : Int).natAbs.log2 + (((b.b2 + 1 : Nat) : Int)).natAbs.log2 < 1000000) = true := bag_mul (n := 13) (m := 61) (by decide) (by rw [Int.natAbs_natCast]; omega) (by decide)
  let x : Int := b.b1 * 48271 + c % 2147483647 + 7919 * ((b.b2 + 1 : Nat) : Int)
  have s4 : fAsg (f2 gAdd (f2 gAdd (f2 gMulA (f2 gIx (fVar 0) (fC (.int 1))) (fC (.int 48271))) (f2 gMod (fL gIntA (fAc (fVar 2) fA0)) (fC (.int 2147483647)))) (f2 gMulA (fC (.int 7919)) (f2 gIx (fVar 0) (fC (.int 2))))) (gtName 3) (ρ.set 2 (some (.d (.int c)))) (S.set l b3.so)
      = .next ((ρ.set 2 (some (.d (.int c)))).set 3 (some (.d (.int x)))) (S.set l b3.so) :=
    ev_asg (ev_f2 (ev_f2 (ev_f2 r3.2.1 rfl (ev_mulA m1)) (ev_f2 (ev_L (ev_one (ev_var v2)) rfl) rfl (ev_I2 (by decide))) rfl) (ev_f2 rfl r3.2.2.1 (ev_mulA m2)) rfl)
  have q3 : ((ρ.set 2 (some (W.d (.int c)))).set 3 (some (.d (.int x))))[0]? = some (some (.loc l)) := by rw [List.getElem?_set_ne (by omega)]; exact q1
  have v3 : ((ρ.set 2 (some (W.d (.int c)))).set 3 (some (.d (.int x))))[3]? = some (some (.d (.int x))) := List.getElem?_set_self (by rw [List.length_set]; omega)
  have s5 : fStore (f2 gMod (fL gIntA (fAc (fVar 3) fA0)) (fC (.int 2147483647))) (fVar 0) (fC (.int 1)) ((ρ.set 2 (some (.d (.int c)))).set 3 (some (.d (.int x)))) (S.set l b3.so)
      = .next ((ρ.set 2 (some (.d (.int c)))).set 3 (some (.d (.int x)))) ((S.set l b3.so).set l ({ b3 with b1 := x % 2147483647 } : Bag).so) :=
    ev_store (ev_f2 (ev_L (ev_one (ev_var v3)) rfl) rfl (ev_I2 (by decide))) (ev_var q3) rfl (bag_set hS3 _).2
  refine ⟨some (.d (.int c)), some (.d (.int x)), ?_⟩
  unfold tkA
  rw [ev_seq s1, ev_seq s2, ev_seq s3, ev_seq s4, s5, List.set_set]
  have eb : b.step = { b3 with b1 := x % 2147483647 } := by
    unfold Bag.step
    rw [if_pos h0]
    show (⟨_, _, _, _⟩ : Bag) = ⟨_, _, _, _⟩
    congr 1
  rw [eb]
theorem ev_seqR {p q : FS} {ρ : Rho} {S S1 : Store} {w : W} (ep : p ρ S = .ret w S1) : fSeq p q ρ S = .ret w S1 := by unfold fSeq; rw [ep]
theorem set_same {S : Store} {l : Nat} {o : SO} (h : S[l]? = some o) : S.set l o = S := by
  refine List.ext_getElem? fun j => ?_
  by_cases e : l = j
  · subst e
    rw [at_set h, h]
  · rw [List.getElem?_set_ne e]
def tkB : FS := (fSeq (fAsg (f2 gMod (fL gIntA (fAc (f2 gIx (fVar 0) (fC (.int 0))) fA0)) (fVar 1)) (gtName 4)) (fSeq (fStore (f2 gDiv (fL gIntA (fAc (f2 gIx (fVar 0) (fC (.int 0))) fA0)) (fVar 1)) (fVar 0) (fC (.int 0))) (fRet (fVar 4))))
def tkC : FS := (fSeq (fAsg (f2 gMod (fL gIntA (fAc (f2 gMulA (f2 gAdd (f2 gIx (fVar 0) (fC (.int 1))) (fC (.int 1))) (fC (.int 39373))) fA0)) (fC (.int 1000000007))) (gtName 5)) (fSeq (fAsg (f2 gMod (fL gIntA (fAc (f2 gMulA (f2 gMod (fL gIntA (fAc (f2 gMulA (fVar 5) (fVar 5)) fA0)) (fC (.int 998244353))) (fC (.int 30011))) fA0)) (fC (.int 998244353))) (gtName 6)) (fRet (f2 gMod (fL gIntA (fAc (f2 gDiv (fVar 6) (fC (.int 7))) fA0)) (fVar 1)))))
theorem bTake_parts : bTake = fSeq (fIf (fTest (f2 gEq (f2 gIx (fVar 0) (fC (.int 0))) (fC (.int 0)))) tkA fNext) (fSeq (fIf (fTest (f2 gGt (f2 gIx (fVar 0) (fC (.int 0))) (fC (.int 0)))) tkB fNext) tkC) := rfl
/-- out of the number that is left over -/
theorem rest_run {ρ : Rho} {S : Store} {l : Nat} {b : Bag} {m : Int} (h0 : ρ[0]? = some (some (.loc l))) (h1 : ρ[1]? = some (some (.d (.int m)))) (h7 : ρ.length = 7) (hS : S[l]? = some b.so) (hm : 0 < m ∧ m < 1073741824) :
    tkB ρ S = .ret (.d (.int (b.b0 % m))) (S.set l ({ b with b0 := b.b0 / m } : Bag).so) := by
  have r := bag_rd h0 hS
  have q0 : (ρ.set 4 (some (W.d (.int (b.b0 % m)))))[0]? = some (some (.loc l)) := by rw [List.getElem?_set_ne (by omega)]; exact h0
  have q1 : (ρ.set 4 (some (W.d (.int (b.b0 % m)))))[1]? = some (some (.d (.int m))) := by rw [List.getElem?_set_ne (by omega)]; exact h1
  have q4 : (ρ.set 4 (some (W.d (.int (b.b0 % m)))))[4]? = some (some (.d (.int (b.b0 % m)))) := List.getElem?_set_self (by omega)
  have r2 := bag_rd q0 hS
  unfold tkB
  rw [ev_seq (ev_asg (ev_f2 (ev_L (ev_one r.1) rfl) (ev_var h1) (ev_I2 (decide_eq_true hm.1)))),
    ev_seq (ev_store (ev_f2 (ev_L (ev_one r2.1) rfl) (ev_var q1) (ev_I2 (decide_eq_true hm))) (ev_var q0) rfl (bag_set hS _).1)]
  exact ev_ret (ev_var q4)
/-- out of what is stirred -/
theorem stirred_run {ρ : Rho} {S : Store} {l : Nat} {b : Bag} {m : Int} (h0 : ρ[0]? = some (some (.loc l))) (h1 : ρ[1]? = some (some (.d (.int m)))) (h7 : ρ.length = 7) (hS : S[l]? = some b.so) (hb : 0 ≤ b.b1 ∧ b.b1 < 2147483647) (hm : 0 < m ∧ m < 1073741824) :
    tkC ρ S = .ret (.d (.int (((b.b1 + 1) * 39373 % 1000000007 * ((b.b1 + 1) * 39373 % 1000000007) % 998244353 * 30011 % 998244353 / 7) % m))) S := by
  have r := bag_rd h0 hS
  generalize eg : (b.b1 + 1) * 39373 % 1000000007 = g
  have g0 : 0 ≤ g ∧ g < 1000000007 := by rw [← eg]; exact ⟨Int.emod_nonneg _ (by decide), Int.emod_lt_of_pos _ (by decide)⟩
  generalize ek : g * g % 998244353 = k
  have k0 : 0 ≤ k ∧ k < 998244353 := by rw [← ek]; exact ⟨Int.emod_nonneg _ (by decide), Int.emod_lt_of_pos _ (by decide)⟩
  have m1 : decide ((b.b1 + 1).natAbs.log2 + (39373 : Int).natAbs.log2 < 1000000) = true := bag_mul (n := 32) (m := 16) (by omega) (by decide) (by decide)
  have m2 : decide (g.natAbs.log2 + g.natAbs.log2 < 1000000) = true := bag_mul (n := 30) (m := 30) (by omega) (by omega) (by decide)
  have m3 : decide (k.natAbs.log2 + (30011 : Int).natAbs.log2 < 1000000) = true := bag_mul (n := 30) (m := 16) (by omega) (by decide) (by decide)
  have v5 : (ρ.set 5 (some (W.d (.int g))))[5]? = some (some (.d (.int g))) := List.getElem?_set_self (by omega)
  have v6 : ((ρ.set 5 (some (W.d (.int g)))).set 6 (some (W.d (.int (k * 30011 % 998244353)))))[6]? = some (some (.d (.int (k * 30011 % 998244353)))) := List.getElem?_set_self (by rw [List.length_set]; omega)
  have v1 : ((ρ.set 5 (some (W.d (.int g)))).set 6 (some (W.d (.int (k * 30011 % 998244353)))))[1]? = some (some (.d (.int m))) := by rw [List.getElem?_set_ne (by omega), List.getElem?_set_ne (by omega)]; exact h1
  have a5 : fAsg (f2 gMod (fL gIntA (fAc (f2 gMulA (f2 gAdd (f2 gIx (fVar 0) (fC (.int 1))) (fC (.int 1))) (fC (.int 39373))) fA0)) (fC (.int 1000000007))) (gtName 5) ρ S = .next (ρ.set 5 (some (W.d (.int g)))) S := by
    rw [← eg]
    exact ev_asg (ev_f2 (ev_L (ev_one (ev_f2 (ev_f2 r.2.1 rfl rfl) rfl (ev_mulA m1))) rfl) rfl (ev_I2 (by decide)))
  have a6 : fAsg (f2 gMod (fL gIntA (fAc (f2 gMulA (f2 gMod (fL gIntA (fAc (f2 gMulA (fVar 5) (fVar 5)) fA0)) (fC (.int 998244353))) (fC (.int 30011))) fA0)) (fC (.int 998244353))) (gtName 6) (ρ.set 5 (some (W.d (.int g)))) S = .next ((ρ.set 5 (some (W.d (.int g)))).set 6 (some (W.d (.int (k * 30011 % 998244353))))) S := by
    refine ev_asg (ev_f2 (ev_L (ev_one (ev_f2 (ev_f2 (ev_L (ev_one (ev_f2 (ev_var v5) (ev_var v5) (ev_mulA m2))) rfl) rfl (ev_I2 (by decide))) rfl (ev_mulA ?_))) rfl) rfl ?_)
    · rw [ek]; exact m3
    · rw [ek]; exact ev_I2 (by decide)
  unfold tkC
  rw [ev_seq a5, ev_seq a6]
  exact ev_ret (ev_f2 (ev_L (ev_one (ev_f2 (ev_var v6) rfl (ev_I2 (by decide)))) rfl) (ev_var v1) (ev_I2 (decide_eq_true hm.1)))
theorem step_b1 {b : Bag} (h1 : 0 ≤ b.b1 ∧ b.b1 < 2147483647) : 0 ≤ b.step.b1 ∧ b.step.b1 < 2147483647 := by
  unfold Bag.step
  split
  · exact ⟨Int.emod_nonneg _ (by decide), Int.emod_lt_of_pos _ (by decide)⟩
  · exact h1
/-- what is taken of the bag -/
theorem take_run {S : Store} {l : Nat} {b : Bag} {m : Int} (hS : S[l]? = some b.so) (h1 : 0 ≤ b.b1 ∧ b.b1 < 2147483647) (h2 : b.b2 < 2 ^ 60) (hl : b.cs.length < 1000) (hm : 0 < m ∧ m < 1073741824) :
    runB 7 bTake [.loc l, .d (.int m)] S = .ok (.d (.int (b.take m).1)) (S.set l (b.take m).2.so) := by
  have e0 : (startR 7 [.loc l, .d (.int m)])[0]? = some (some (.loc l)) := rfl
  have e1 : (startR 7 [.loc l, .d (.int m)])[1]? = some (some (.d (.int m))) := rfl
  have e7 : (startR 7 [.loc l, .d (.int m)]).length = 7 := rfl
  -- behind the stirring
  have first : ∃ ρ, ρ[0]? = some (some (.loc l)) ∧ ρ[1]? = some (some (.d (.int m))) ∧ ρ.length = 7 ∧
      fIf (fTest (f2 gEq (f2 gIx (fVar 0) (fC (.int 0))) (fC (.int 0)))) tkA fNext (startR 7 [.loc l, .d (.int m)]) S = .next ρ (S.set l b.step.so) := by
    have tst : fTest (f2 gEq (f2 gIx (fVar 0) (fC (.int 0))) (fC (.int 0))) (startR 7 [.loc l, .d (.int m)]) S = .ok (decide (b.b0 = 0)) S := ev_test (ev_f2 (bag_rd e0 hS).1 rfl ev_eqI)
    by_cases hz : b.b0 = 0
    · rw [decide_eq_true hz] at tst
      obtain ⟨u, v, e⟩ := stir_run e0 e7 hS hz h1 h2 hl
      exact ⟨_, rfl, rfl, rfl, (ev_yes tst).trans e⟩
    · rw [decide_eq_false hz] at tst
      refine ⟨_, e0, e1, e7, (ev_no tst).trans ?_⟩
      have es : b.step = b := if_neg hz
      rw [es, set_same hS]
      rfl
  obtain ⟨ρ, r0, r1, r7, e⟩ := first
  have hS2 : (S.set l b.step.so)[l]? = some b.step.so := at_set hS
  have h1' := step_b1 h1
  unfold runB
  rw [bTake_parts, ev_seq e]
  have tst : fTest (f2 gGt (f2 gIx (fVar 0) (fC (.int 0))) (fC (.int 0))) ρ (S.set l b.step.so) = .ok (decide (0 < b.step.b0)) (S.set l b.step.so) := ev_test (ev_f2 (bag_rd r0 hS2).1 rfl (ev_I2 rfl))
  by_cases hp : 0 < b.step.b0
  · rw [decide_eq_true hp] at tst
    rw [ev_seqR ((ev_yes tst).trans (rest_run r0 r1 r7 hS2 hm)), List.set_set]
    unfold Bag.take
    rw [if_pos hp]
    rfl
  · rw [decide_eq_false hp] at tst
    rw [ev_seq ((ev_no tst).trans (show fNext ρ (S.set l b.step.so) = .next ρ (S.set l b.step.so) from rfl)), stirred_run r0 r1 r7 hS2 h1' hm]
    unfold Bag.take
    rw [if_neg hp]
    rfl
end VI
set_option Elab.async false
set_option linter.all false
set_option maxRecDepth 100000
namespace VI
open PySem PySem.Spec PyProof.Rows L2

/-! calls evaluated; one of several; several mixed -/
theorem ev_call {n : Nat} {g : List W → Store → R W} {fa : FA} {ρ : Rho} {S S1 S2 : Store} {ws : List W} {w w' : W} (ea : fa ρ S = .ok ws S1) (hn : ws.length = n) (eg : g ws S1 = .ok w S2) (hz : S2.length = S1.length) (hw : frzW S1.length S2 w = some w') : fCall n g fa ρ S = .ok w' S2 := by
  unfold fCall
  rw [ea]
  show (if ws.length = n then frz S1.length (g ws S1) else R.bad) = _
  rw [if_pos hn, eg]
  show (match frzW S1.length S2 w with | some w' => R.ok w' (S2.take S1.length) | none => R.bad) = _
  rw [hw]
  show R.ok w' (S2.take S1.length) = _
  rw [List.take_of_length_le (by omega)]
structure Bag.Fit (b : Bag) : Prop where
  h1 : 0 ≤ b.b1 ∧ b.b1 < 2147483647
  hl : b.cs.length < 1000
theorem step_cs (b : Bag) : b.step.cs = b.cs ∧ b.step.b2 ≤ b.b2 + 1 := by
  unfold Bag.step
  split
  · exact ⟨rfl, Nat.le_refl _⟩
  · exact ⟨rfl, Nat.le_succ _⟩
theorem take_facts (b : Bag) {m : Int} (hm : 0 < m) : 0 ≤ (b.take m).1 ∧ (b.take m).1 < m := by
  unfold Bag.take
  split
  · exact ⟨Int.emod_nonneg _ (by omega), Int.emod_lt_of_pos _ hm⟩
  · exact ⟨Int.emod_nonneg _ (by omega), Int.emod_lt_of_pos _ hm⟩
theorem take_fit {b : Bag} (h : b.Fit) (m : Int) : (b.take m).2.Fit ∧ (b.take m).2.b2 ≤ b.b2 + 1 := by
  have s := step_cs b
  have s1 := step_b1 h.h1
  unfold Bag.take
  split
  · exact ⟨⟨s1, by show b.step.cs.length < 1000; rw [s.1]; exact h.hl⟩, s.2⟩
  · exact ⟨⟨s1, by rw [s.1]; exact h.hl⟩, s.2⟩
/-- it takes a number -/
def Taker (g : List W → Store → R W) : Prop := ∀ (S : Store) (l : Nat) (b : Bag) (m : Int), S[l]? = some b.so → b.Fit → b.b2 < 2 ^ 60 → 0 < m ∧ m < 1073741824 → g [.loc l, .d (.int m)] S = .ok (.d (.int (b.take m).1)) (S.set l (b.take m).2.so)
theorem taker : Taker (runB 7 bTake) := fun S l b m hS h h2 hm => take_run hS h.h1 h2 h.hl hm
theorem ev_take {g : List W → Store → R W} (T : Taker g) {fa fb : FE} {ρ : Rho} {S : Store} {l : Nat} {b : Bag} {m : Int} (ea : fa ρ S = .ok (.loc l) S) (eb : fb ρ S = .ok (.d (.int m)) S) (hS : S[l]? = some b.so) (h : b.Fit) (h2 : b.b2 < 2 ^ 60) (hm : 0 < m ∧ m < 1073741824) :
    fCall 2 g (fAc fa (fAc fb fA0)) ρ S = .ok (.d (.int (b.take m).1)) (S.set l (b.take m).2.so) :=
  ev_call (ev_ac ea (ev_one eb)) rfl (T S l b m hS h h2 hm) (List.length_set ..) rfl
def bSome (tk : List W → Store → R W) : FS := (fRet (f2 gIx (fVar 1) (fCall 2 tk (fAc (fVar 0) (fAc (fL gLen (fAc (fVar 1) fA0)) fA0)))))
theorem atI_in {α : Type} {xs : List α} {i : Int} (h0 : 0 ≤ i) (h1 : i < xs.length) : atI xs i = xs[i.toNat]? := by
  unfold atI ixN
  rw [if_pos h0, if_pos h1]
  rfl
/-- one of several -/
def pick (b : Bag) (ds : List PyData) : PyData := ds.getD (b.take ds.length).1.toNat .none
theorem pick_mem {b : Bag} {ds : List PyData} (h : 0 < ds.length) : pick b ds ∈ ds := by
  have f := take_facts b (m := ds.length) (by omega)
  unfold pick
  rw [List.getD_eq_getElem?_getD, List.getElem?_eq_getElem (by omega)]
  exact List.getElem_mem _
theorem some_run {tk : List W → Store → R W} (T : Taker tk) {S : Store} {l : Nat} {b : Bag} {ds : List PyData} (hS : S[l]? = some b.so) (h : b.Fit) (h2 : b.b2 < 2 ^ 60) (hd : 0 < ds.length ∧ ds.length < 1073741824) :
    runB 2 (bSome tk) [.loc l, .d (.list ds)] S = .ok (.d (pick b ds)) (S.set l (b.take ds.length).2.so) := by
  have f := take_facts b (m := ds.length) (by omega)
  have hp : ds[(b.take ds.length).1.toNat]? = some (pick b ds) := by
    unfold pick
    rw [List.getD_eq_getElem?_getD, List.getElem?_eq_getElem (by omega)]
    rfl
  have e : bSome tk (startR 2 [.loc l, .d (.list ds)]) S = .ret (.d (pick b ds)) (S.set l (b.take ds.length).2.so) := by
    refine ev_ret (ev_f2 (ev_var (x := .d (.list ds)) rfl) (ev_take (m := ds.length) T (ev_var rfl) (ev_L (ev_one (ev_var (x := .d (.list ds)) rfl)) rfl) hS h h2 ⟨by omega, by omega⟩) ?_)
    show (atI ds _).map _ = _
    rw [atI_in f.1 f.2, hp]
    rfl
  unfold runB
  rw [e]
  rfl
/-! several, mixed -/
def mixP : Bag → List PyData → List PyData → List PyData × Bag
  | b, acc, [] => (acc, b)
  | b, acc, d :: ds => mixP (b.take ((acc.length : Int) + 1)).2 (acc.take (b.take ((acc.length : Int) + 1)).1.toNat ++ [d] ++ acc.drop (b.take ((acc.length : Int) + 1)).1.toNat) ds
theorem mixP_cons (b : Bag) (acc : List PyData) (d : PyData) (ds : List PyData) : mixP b acc (d :: ds) = mixP (b.take ((acc.length : Int) + 1)).2 (acc.take (b.take ((acc.length : Int) + 1)).1.toNat ++ [d] ++ acc.drop (b.take ((acc.length : Int) + 1)).1.toNat) ds := rfl
theorem mix_perm : ∀ (ds acc : List PyData) (b : Bag), ((mixP b acc ds).1).Perm (ds ++ acc)
  | [], acc, b => List.Perm.refl _
  | d :: ds, acc, b => by
    unfold mixP
    refine (mix_perm ds _ _).trans ?_
    have e : (acc.take (b.take ((acc.length : Int) + 1)).1.toNat ++ [d] ++ acc.drop (b.take ((acc.length : Int) + 1)).1.toNat).Perm (d :: acc) := by
      rw [List.append_assoc]
      show (acc.take (b.take ((acc.length : Int) + 1)).1.toNat ++ d :: acc.drop (b.take ((acc.length : Int) + 1)).1.toNat).Perm (d :: acc)
      refine List.perm_middle.trans ?_
      rw [List.take_append_drop]
    exact (List.Perm.append_left ds e).trans List.perm_middle
theorem mix_fit : ∀ (ds acc : List PyData) (b : Bag), b.Fit → (mixP b acc ds).2.Fit ∧ (mixP b acc ds).2.b2 ≤ b.b2 + ds.length
  | [], acc, b, h => ⟨h, Nat.le_refl _⟩
  | d :: ds, acc, b, h => by
    unfold mixP
    have f := take_fit h ((acc.length : Int) + 1)
    have r := mix_fit ds (acc.take (b.take ((acc.length : Int) + 1)).1.toNat ++ [d] ++ acc.drop (b.take ((acc.length : Int) + 1)).1.toNat) _ f.1
    refine ⟨r.1, ?_⟩
    rw [List.length_cons]
    have := r.2
    have := f.2
    omega
def mixBody (tk : List W → Store → R W) : FS := (fDrop (fMeth mInsert (fVar 2) (fAc (fCall 2 tk (fAc (fVar 0) (fAc (f2 gAdd (fL gLen (fAc (fVar 2) fA0)) (fC (.int 1))) fA0))) (fAc (fVar 3) fA0))))
noncomputable def bMixed (tk : List W → Store → R W) : FS := (fSeq (fAsg (fL gLive fA0) (gtName 2)) (fSeq (fFor (fItS (fVar 1)) (gtName 3) (mixBody tk)) (fRet (fVar 2))))
theorem ev_drop {a : FE} {ρ : Rho} {S S1 : Store} {x : W} (ea : a ρ S = .ok x S1) : fDrop a ρ S = .next ρ S1 := by unfold fDrop; rw [ea]; rfl
theorem ev_meth {g : GM} {o : FE} {fa : FA} {ρ : Rho} {S S1 S2 S3 : Store} {w z : W} {ws : List W} (eo : o ρ S = .ok w S1) (hl : liveB w S1 = true) (ea : fa ρ S1 = .ok ws S2) (eg : g w ws S2 = some (z, S3)) : fMeth g o fa ρ S = .ok z S3 := by
  unfold fMeth
  rw [eo]
  show (if liveB w S1 = true then (fa ρ S1).bind _ else R.bad) = _
  rw [if_pos hl, ea]
  show lift (g w ws S2) = _
  rw [eg]
  rfl
/-- one turn: the bag at l, the new list at n -/
theorem mix_turn {tk : List W → Store → R W} (T : Taker tk) {ρ : Rho} {S : Store} {l n : Nat} {b : Bag} {acc : List PyData} {d : PyData} (ne : l ≠ n) (h0 : ρ[0]? = some (some (.loc l))) (h2 : ρ[2]? = some (some (.loc n))) (h3 : ρ[3]? = some (some (.d d)))
    (hS : S[l]? = some b.so) (hN : S[n]? = some (.lst acc)) (hf : b.Fit) (hb : b.b2 < 2 ^ 60) (hz : acc.length < 1000000) :
    mixBody tk ρ S = .next ρ ((S.set l (b.take ((acc.length : Int) + 1)).2.so).set n (.lst (acc.take (b.take ((acc.length : Int) + 1)).1.toNat ++ [d] ++ acc.drop (b.take ((acc.length : Int) + 1)).1.toNat))) := by
  have f := take_facts b (m := (acc.length : Int) + 1) (by omega)
  have hN2 : (S.set l (b.take ((acc.length : Int) + 1)).2.so)[n]? = some (.lst acc) := by rw [List.getElem?_set_ne ne]; exact hN
  have ln : fL gLen (fAc (fVar 2) fA0) ρ S = .ok (.d (.int acc.length)) S := ev_L (ev_one (ev_var h2)) (by simp only [gLen, asSeq, hN])
  have tk1 := ev_take (fb := f2 gAdd (fL gLen (fAc (fVar 2) fA0)) (fC (.int 1))) (m := (acc.length : Int) + 1) T (ev_var h0) (ev_f2 ln rfl rfl) hS hf hb ⟨by omega, by omega⟩
  refine ev_drop (ev_meth (ev_var h2) (by simp only [liveB, hN]) (ev_ac tk1 (ev_one (ev_var h3))) (z := .d .none) ?_)
  unfold mInsert
  simp only [hN2]
  rw [if_pos ⟨Nat.lt_of_lt_of_le hz (by decide), f.1, by omega⟩]
theorem mix_loop {tk : List W → Store → R W} (T : Taker tk) {l n : Nat} {ok : Store → Prop} (hok : ∀ S, ok S) (ne : l ≠ n) : ∀ (ds acc : List PyData) (b : Bag) (ρ : Rho) (S : Store), ρ[0]? = some (some (.loc l)) → ρ[2]? = some (some (.loc n)) → ρ.length = 4 → S[l]? = some b.so → S[n]? = some (.lst acc) → b.Fit → b.b2 + ds.length < 2 ^ 60 → acc.length + ds.length < 1000000 →
    ∃ ρ', ρ'[2]? = some (some (.loc n)) ∧ forL ok (gtName 3) (mixBody tk) (ds.map W.d) ρ S = .next ρ' ((S.set l (mixP b acc ds).2.so).set n (.lst (mixP b acc ds).1))
  | [], acc, b, ρ, S, h0, h2, h4, hS, hN, hf, hb, hz => by
    refine ⟨ρ, h2, ?_⟩
    show forL ok (gtName 3) (mixBody tk) [] ρ S = _
    rw [forL, if_pos (hok S)]
    show RF.next ρ S = .next ρ ((S.set l b.so).set n (.lst acc))
    rw [set_same hS, set_same hN]
  | d :: ds, acc, b, ρ, S, h0, h2, h4, hS, hN, hf, hb, hz => by
    rw [List.length_cons] at hb hz
    have k0 : (ρ.set 3 (some (W.d d)))[0]? = some (some (.loc l)) := by rw [List.getElem?_set_ne (by omega)]; exact h0
    have k2 : (ρ.set 3 (some (W.d d)))[2]? = some (some (.loc n)) := by rw [List.getElem?_set_ne (by omega)]; exact h2
    have k3 : (ρ.set 3 (some (W.d d)))[3]? = some (some (.d d)) := List.getElem?_set_self (by omega)
    have tn := mix_turn T ne k0 k2 k3 hS hN hf (by omega) (by omega)
    have f := take_fit hf ((acc.length : Int) + 1)
    have fa := take_facts b (m := (acc.length : Int) + 1) (by omega)
    generalize eb : (b.take ((acc.length : Int) + 1)).2 = b2 at tn f
    generalize ei : acc.take (b.take ((acc.length : Int) + 1)).1.toNat ++ [d] ++ acc.drop (b.take ((acc.length : Int) + 1)).1.toNat = acc2 at tn
    have la : acc2.length = acc.length + 1 := by
      rw [← ei]
      simp only [List.length_append, List.length_take, List.length_drop, List.length_cons, List.length_nil]
      omega
    have s1 : ((S.set l b2.so).set n (.lst acc2))[l]? = some b2.so := by rw [List.getElem?_set_ne (Ne.symm ne)]; exact at_set hS
    have s2 : ((S.set l b2.so).set n (.lst acc2))[n]? = some (.lst acc2) := at_set (o := .lst acc) (by rw [List.getElem?_set_ne ne]; exact hN)
    obtain ⟨ρ', g2, e⟩ := mix_loop T hok ne ds acc2 b2 (ρ.set 3 (some (.d d))) ((S.set l b2.so).set n (.lst acc2)) k0 k2 (by rw [List.length_set]; exact h4) s1 s2 f.1 (by omega) (by omega)
    refine ⟨ρ', g2, ?_⟩
    show forL ok (gtName 3) (mixBody tk) (.d d :: ds.map W.d) ρ S = _
    rw [forL, if_pos (hok S)]
    show (match mixBody tk (ρ.set 3 (some (.d d))) S with
      | .next ρ2 S2 => forL ok (gtName 3) (mixBody tk) (ds.map W.d) ρ2 S2
      | .cnt ρ2 S2 => forL ok (gtName 3) (mixBody tk) (ds.map W.d) ρ2 S2
      | .brk ρ2 S2 => .next ρ2 S2
      | r => r) = _
    rw [tn]
    show forL ok (gtName 3) (mixBody tk) (ds.map W.d) _ _ = _
    rw [e]
    rw [mixP_cons, eb, ei, List.set_comm (l := S.set l b2.so) _ _ (Ne.symm ne), List.set_set, List.set_set]
theorem push_at {S : Store} {o : SO} : (S ++ [o])[S.length]? = some o := by rw [List.getElem?_append_right (Nat.le_refl _)]; simp
theorem push_old {S : Store} {o u : SO} {l : Nat} (h : S[l]? = some u) : (S ++ [o])[l]? = some u := by rw [List.getElem?_append_left (List.getElem?_eq_some_iff.mp h).1]; exact h
theorem mixed_run {tk : List W → Store → R W} (T : Taker tk) {S : Store} {l : Nat} {b : Bag} {ds : List PyData} (hS : S[l]? = some b.so) (hf : b.Fit) (hb : b.b2 + ds.length < 2 ^ 60) (hz : ds.length < 1000000) :
    runB 4 (bMixed tk) [.loc l, .d (.list ds)] S = .ok (.loc S.length) (S.set l (mixP b [] ds).2.so ++ [.lst (mixP b [] ds).1]) := by
  have hl : l < S.length := (List.getElem?_eq_some_iff.mp hS).1
  have e1 : fAsg (fL gLive fA0) (gtName 2) (startR 4 [.loc l, .d (.list ds)]) S = .next ((startR 4 [.loc l, .d (.list ds)]).set 2 (some (.loc S.length))) (S ++ [.lst []]) := ev_asg (ev_L (show fA0 _ S = .ok [] S from rfl) rfl)
  obtain ⟨ρ', k2, e2⟩ := mix_loop T (ok := fun _ => True) (fun _ => trivial) (Nat.ne_of_lt hl) ds [] b ((startR 4 [.loc l, .d (.list ds)]).set 2 (some (.loc S.length))) (S ++ [.lst []]) rfl rfl rfl (push_old hS) push_at hf hb (by simpa using hz)
  have e3 : fFor (fItS (fVar 1)) (gtName 3) (mixBody tk) ((startR 4 [.loc l, .d (.list ds)]).set 2 (some (.loc S.length))) (S ++ [.lst []]) = .next ρ' (((S ++ [SO.lst []]).set l (mixP b [] ds).2.so).set S.length (.lst (mixP b [] ds).1)) := e2
  have es : ((S ++ [SO.lst []]).set l (mixP b [] ds).2.so).set S.length (.lst (mixP b [] ds).1) = S.set l (mixP b [] ds).2.so ++ [.lst (mixP b [] ds).1] := by
    rw [List.set_append_left _ _ hl, List.set_append_right _ _ (by rw [List.length_set]; exact Nat.le_refl _), List.length_set, Nat.sub_self]
    rfl
  unfold runB bMixed
  rw [ev_seq e1, ev_seq e3, ev_ret (ev_var k2), es]
  rfl
/-- as it is called -/
theorem ev_mixed {tk g : List W → Store → R W} (T : Taker tk) (hg : ∀ ws S, g ws S = runB 4 (bMixed tk) ws S) {fa fb : FE} {ρ : Rho} {S : Store} {l : Nat} {b : Bag} {ds : List PyData} (ea : fa ρ S = .ok (.loc l) S) (eb : fb ρ S = .ok (.d (.list ds)) S)
    (hS : S[l]? = some b.so) (hf : b.Fit) (hb : b.b2 + ds.length < 2 ^ 60) (hz : ds.length < 1000000) : fCall 2 g (fAc fa (fAc fb fA0)) ρ S = .ok (.d (.list (mixP b [] ds).1)) (S.set l (mixP b [] ds).2.so) := by
  unfold fCall
  rw [ev_ac ea (ev_one eb)]
  show (if [W.loc l, .d (.list ds)].length = 2 then frz S.length (g _ S) else R.bad) = _
  rw [if_pos (show [W.loc l, .d (.list ds)].length = 2 from rfl), hg, mixed_run T hS hf hb hz]
  show (match frzW S.length _ (.loc S.length) with | some w' => R.ok w' (List.take S.length _) | none => R.bad) = _
  have e : frzW S.length (S.set l (mixP b [] ds).2.so ++ [.lst (mixP b [] ds).1]) (.loc S.length) = some (.d (.list (mixP b [] ds).1)) := by
    unfold frzW
    rw [if_neg (Nat.lt_irrefl _)]
    have z : (S.set l (mixP b [] ds).2.so ++ [SO.lst (mixP b [] ds).1])[S.length]? = some (.lst (mixP b [] ds).1) := by
      have := push_at (S := S.set l (mixP b [] ds).2.so) (o := .lst (mixP b [] ds).1)
      rw [List.length_set] at this
      exact this
    rw [z]
  rw [e]
  show R.ok _ (List.take S.length _) = _
  rw [List.take_append_of_le_length (by rw [List.length_set]; exact Nat.le_refl _), List.take_of_length_le (by rw [List.length_set]; exact Nat.le_refl _)]
theorem ev_some {tk g : List W → Store → R W} (T : Taker tk) (hg : ∀ ws S, g ws S = runB 2 (bSome tk) ws S) {fa fb : FE} {ρ : Rho} {S : Store} {l : Nat} {b : Bag} {ds : List PyData} (ea : fa ρ S = .ok (.loc l) S) (eb : fb ρ S = .ok (.d (.list ds)) S)
    (hS : S[l]? = some b.so) (hf : b.Fit) (hb : b.b2 < 2 ^ 60) (hz : 0 < ds.length ∧ ds.length < 1073741824) : fCall 2 g (fAc fa (fAc fb fA0)) ρ S = .ok (.d (pick b ds)) (S.set l (b.take ds.length).2.so) :=
  ev_call (ev_ac ea (ev_one eb)) rfl ((hg _ _).trans (some_run T hS hf hb hz)) (List.length_set ..) rfl
end VI
set_option Elab.async false
set_option linter.all false
set_option maxRecDepth 100000
namespace VI
open PySem PySem.Spec PyProof.Rows L2
/-! the text -/
def topS (i : Nat) : Stmt := PySem.Challenge.pw_kindsworn_k06_words_of_texts.main.body.getD i (.Pass ⟨0, 0, 0, 0⟩)
/-- run_end -/
abbrev st0 : Stmt := topS 17
abbrev N0 : List Str := ["text", "at", "signs", "end"]
abbrev P0 : List Str := ["text", "at", "signs"]
theorem sc0 : FnScope N0 P0 (defScope st0) := ⟨rfl, rfl, rfl, by decide +kernel, rfl, by decide +kernel, by decide +kernel⟩
/-- name_end -/
abbrev st1 : Stmt := topS 18
abbrev N1 : List Str := ["text", "at", "end", "goes_on"]
abbrev P1 : List Str := ["text", "at"]
theorem sc1 : FnScope N1 P1 (defScope st1) := ⟨rfl, rfl, rfl, by decide +kernel, rfl, by decide +kernel, by decide +kernel⟩
/-- word_end -/
abbrev st2 : Stmt := topS 19
abbrev N2 : List Str := ["text", "at", "sign", "end"]
abbrev P2 : List Str := ["text", "at"]
theorem sc2 : FnScope N2 P2 (defScope st2) := ⟨rfl, rfl, rfl, by decide +kernel, rfl, by decide +kernel, by decide +kernel⟩
/-- are_plain_digits -/
abbrev st3 : Stmt := topS 20
abbrev N3 : List Str := ["digits"]
abbrev P3 : List Str := ["digits"]
theorem sc3 : FnScope N3 P3 (defScope st3) := ⟨rfl, rfl, rfl, by decide +kernel, rfl, by decide +kernel, by decide +kernel⟩
/-- is_number_word -/
abbrev st4 : Stmt := topS 21
abbrev N4 : List Str := ["word", "digits"]
abbrev P4 : List Str := ["word"]
theorem sc4 : FnScope N4 P4 (defScope st4) := ⟨rfl, rfl, rfl, by decide +kernel, rfl, by decide +kernel, by decide +kernel⟩
/-- number_told -/
abbrev st5 : Stmt := topS 22
abbrev N5 : List Str := ["word"]
abbrev P5 : List Str := ["word"]
theorem sc5 : FnScope N5 P5 (defScope st5) := ⟨rfl, rfl, rfl, by decide +kernel, rfl, by decide +kernel, by decide +kernel⟩
/-- name_fault -/
abbrev st6 : Stmt := topS 23
abbrev N6 : List Str := ["word", "at", "side"]
abbrev P6 : List Str := ["word"]
theorem sc6 : FnScope N6 P6 (defScope st6) := ⟨rfl, rfl, rfl, by decide +kernel, rfl, by decide +kernel, by decide +kernel⟩
/-- fault_in -/
abbrev st7 : Stmt := topS 24
abbrev N7 : List Str := ["word"]
abbrev P7 : List Str := ["word"]
theorem sc7 : FnScope N7 P7 (defScope st7) := ⟨rfl, rfl, rfl, by decide +kernel, rfl, by decide +kernel, by decide +kernel⟩
/-- words_of -/
abbrev st8 : Stmt := topS 25
abbrev N8 : List Str := ["text", "words", "line", "row", "at", "end", "fault"]
abbrev P8 : List Str := ["text"]
theorem sc8 : FnScope N8 P8 (defScope st8) := ⟨rfl, rfl, rfl, by decide +kernel, rfl, by decide +kernel, by decide +kernel⟩
/-- _law_bag -/
abbrev st9 : Stmt := topS 27
abbrev N9 : List Str := ["script", "cell"]
abbrev P9 : List Str := ["script"]
theorem sc9 : FnScope N9 P9 (defScope st9) := ⟨rfl, rfl, rfl, by decide +kernel, rfl, by decide +kernel, by decide +kernel⟩
/-- _law_take -/
abbrev st10 : Stmt := topS 28
abbrev N10 : List Str := ["bag", "many", "cell", "stirred", "value", "begin", "second"]
abbrev P10 : List Str := ["bag", "many"]
theorem sc10 : FnScope N10 P10 (defScope st10) := ⟨rfl, rfl, rfl, by decide +kernel, rfl, by decide +kernel, by decide +kernel⟩
/-- _law_some -/
abbrev st11 : Stmt := topS 29
abbrev N11 : List Str := ["bag", "things"]
abbrev P11 : List Str := ["bag", "things"]
theorem sc11 : FnScope N11 P11 (defScope st11) := ⟨rfl, rfl, rfl, by decide +kernel, rfl, by decide +kernel, by decide +kernel⟩
/-- _law_alike -/
abbrev st12 : Stmt := topS 30
abbrev N12 : List Str := ["found", "due"]
abbrev P12 : List Str := ["found", "due"]
theorem sc12 : FnScope N12 P12 (defScope st12) := ⟨rfl, rfl, rfl, by decide +kernel, rfl, by decide +kernel, by decide +kernel⟩
/-- _law_barred -/
abbrev st13 : Stmt := topS 31
abbrev N13 : List Str := ["found"]
abbrev P13 : List Str := []
theorem sc13 : FnScope N13 P13 (defScope st13) := ⟨rfl, rfl, rfl, by decide +kernel, rfl, by decide +kernel, by decide +kernel⟩
/-- _law_small_signs -/
abbrev st14 : Stmt := topS 32
abbrev N14 : List Str := []
abbrev P14 : List Str := []
theorem sc14 : FnScope N14 P14 (defScope st14) := ⟨rfl, rfl, rfl, by decide +kernel, rfl, by decide +kernel, by decide +kernel⟩
/-- _law_great_signs -/
abbrev st15 : Stmt := topS 33
abbrev N15 : List Str := []
abbrev P15 : List Str := []
theorem sc15 : FnScope N15 P15 (defScope st15) := ⟨rfl, rfl, rfl, by decide +kernel, rfl, by decide +kernel, by decide +kernel⟩
/-- _law_figures -/
abbrev st16 : Stmt := topS 34
abbrev N16 : List Str := []
abbrev P16 : List Str := []
theorem sc16 : FnScope N16 P16 (defScope st16) := ⟨rfl, rfl, rfl, by decide +kernel, rfl, by decide +kernel, by decide +kernel⟩
/-- _law_odd -/
abbrev st17 : Stmt := topS 35
abbrev N17 : List Str := ["bag", "some"]
abbrev P17 : List Str := ["bag"]
theorem sc17 : FnScope N17 P17 (defScope st17) := ⟨rfl, rfl, rfl, by decide +kernel, rfl, by decide +kernel, by decide +kernel⟩
/-- _law_scanned -/
abbrev st18 : Stmt := topS 36
abbrev N18 : List Str := ["text", "found", "line", "column", "at", "sign", "word", "wrong"]
abbrev P18 : List Str := ["text"]
theorem sc18 : FnScope N18 P18 (defScope st18) := ⟨rfl, rfl, rfl, by decide +kernel, rfl, by decide +kernel, by decide +kernel⟩
/-- _law_run_from -/
abbrev st19 : Stmt := topS 37
abbrev N19 : List Str := ["text", "at", "signs", "end"]
abbrev P19 : List Str := ["text", "at", "signs"]
theorem sc19 : FnScope N19 P19 (defScope st19) := ⟨rfl, rfl, rfl, by decide +kernel, rfl, by decide +kernel, by decide +kernel⟩
/-- _law_word_at -/
abbrev st20 : Stmt := topS 38
abbrev N20 : List Str := ["text", "at", "letters", "signs", "word", "end", "other", "head", "figures", "number"]
abbrev P20 : List Str := ["text", "at"]
theorem sc20 : FnScope N20 P20 (defScope st20) := ⟨rfl, rfl, rfl, by decide +kernel, rfl, by decide +kernel, by decide +kernel⟩
/-- _law_heard -/
abbrev st21 : Stmt := topS 39
abbrev N21 : List Str := ["text", "e"]
abbrev P21 : List Str := ["text"]
theorem sc21 : FnScope N21 P21 (defScope st21) := ⟨rfl, rfl, rfl, by decide +kernel, rfl, by decide +kernel, by decide +kernel⟩
/-- _law_near_word -/
abbrev st22 : Stmt := topS 40
abbrev N22 : List Str := ["bag", "some", "odd", "turn"]
abbrev P22 : List Str := ["bag"]
theorem sc22 : FnScope N22 P22 (defScope st22) := ⟨rfl, rfl, rfl, by decide +kernel, rfl, by decide +kernel, by decide +kernel⟩
/-- law -/
abbrev st23 : Stmt := topS 41
abbrev N23 : List Str := ["script", "bag", "turn", "text", "k", "gap", "due", "again", "heard", "odd"]
abbrev P23 : List Str := ["script"]
theorem sc23 : FnScope N23 P23 (defScope st23) := ⟨rfl, rfl, rfl, by decide +kernel, rfl, by decide +kernel, by decide +kernel⟩
def k_GREAT_LETTERS : PyData := (.str "ABCDEFGHIJKLMNOPQRSTUVWXYZ")
def k_NAME_SIGNS : PyData := (.str "abcdefghijklmnopqrstuvwxyzABCDEFGHIJKLMNOPQRSTUVWXYZ0123456789_")
def k_BARRED : PyData := (.tuple [(.str "module"), (.str "use"), (.str "give"), (.str "kind"), (.str "let"), (.str "rec"), (.str "and"), (.str "in"), (.str "fn"), (.str "if"), (.str "then"), (.str "else"), (.str "match"), (.str "with"), (.str "end"), (.str "new"), (.str "get"), (.str "put"), (.str "tell"), (.str "true"), (.str "false")])
def k_LONGEST_NAME : PyData := (.int 20)
def k_LEAST_NUMBER : PyData := (.int (-2147483648))
def k_GREATEST_NUMBER : PyData := (.int 2147483647)
def k_LETTERS : PyData := (.str "abcdefghijklmnopqrstuvwxyzABCDEFGHIJKLMNOPQRSTUVWXYZ")
def k_DIGITS : PyData := (.str "0123456789")
def k_WORD_SIGNS : PyData := (.str "-=<+*(){},.|:_")
def k_MOST_DIGITS : PyData := (.int 9)
def k_LONGEST_NUMBER : PyData := (.int 10)
/-- a is b or under it -/
def subC (a b : Nat) : Bool := [(0, 0), (1, 1), (1, 0), (2, 2), (2, 0), (3, 3), (3, 0)].any fun p => p.1 == a && p.2 == b
/-! what they do -/
abbrev Calls := Nat → List W → Store → R W
/-- run_end -/
noncomputable def b0 (call : Calls) : FS := (fSeq (fAsg (fVar 1) (gtName 3)) (fSeq (whileL (fAndT (fTest (f2 gLt (fVar 3) (fL gLen (fAc (fVar 0) fA0)))) (fTest (f2 gInA (f2 gIx (fVar 0) (fVar 3)) (fVar 2)))) (fAug 3 (gI2 (fun _ _ => true) fun i j => .int (i + j)) (fC (.int 1))) 1000000) (fRet (fVar 3))))
/-- name_end -/
noncomputable def b1 (call : Calls) : FS := (fSeq (fAsg (fCall 3 (call 0) (fAc (fVar 0) (fAc (fVar 1) (fAc (fC k_NAME_SIGNS) fA0)))) (gtName 2)) (fSeq (fAsg (fAndV (f2 gInA (f2 gIx (fVar 0) (fVar 1)) (fC k_GREAT_LETTERS)) (fAndV (f2 gEq (fSl gSlA (fVar 0) (fPart (fVar 2)) (fPart (f2 gAdd (fVar 2) (fC (.int 1))))) (fC (.str "."))) (f2 gLt (f2 gAdd (fVar 2) (fC (.int 1))) (fL gLen (fAc (fVar 0) fA0))))) (gtName 3)) (fSeq (fIf (fAndT (fTru (fVar 3)) (fTest (f2 gInA (f2 gIx (fVar 0) (f2 gAdd (fVar 2) (fC (.int 1)))) (fC k_LETTERS)))) (fRet (fCall 3 (call 0) (fAc (fVar 0) (fAc (f2 gAdd (fVar 2) (fC (.int 1))) (fAc (fC k_NAME_SIGNS) fA0))))) fNext) (fRet (fVar 2)))))
/-- word_end -/
noncomputable def b2 (call : Calls) : FS := (fSeq (fAsg (f2 gIx (fVar 0) (fVar 1)) (gtName 2)) (fSeq (fIf (fTest (f2 gInA (fVar 2) (fC k_LETTERS))) (fRet (fCall 2 (call 1) (fAc (fVar 0) (fAc (fVar 1) fA0)))) fNext) (fSeq (fIf (fTest (f2 gInA (fVar 2) (fC k_DIGITS))) (fRet (fCall 3 (call 0) (fAc (fVar 0) (fAc (fVar 1) (fAc (fC k_DIGITS) fA0))))) fNext) (fSeq (fIf (fOrT (fTest (f2 gEq (fVar 2) (fC (.str "~")))) (fTest (f2 gEq (fVar 2) (fC (.str "?"))))) (fSeq (fAsg (fCall 3 (call 0) (fAc (fVar 0) (fAc (f2 gAdd (fVar 1) (fC (.int 1))) (fAc (fC k_DIGITS) fA0)))) (gtName 3)) (fRet (fIfE (fTest (f2 gGt (fVar 3) (f2 gAdd (fVar 1) (fC (.int 1))))) (fVar 3) (fVar 1)))) fNext) (fSeq (fIf (fTest (f2 gEq (fSl gSlA (fVar 0) (fPart (fVar 1)) (fPart (f2 gAdd (fVar 1) (fC (.int 2))))) (fC (.str "->")))) (fRet (f2 gAdd (fVar 1) (fC (.int 2)))) fNext) (fRet (fIfE (fTest (f2 gInA (fVar 2) (fC k_WORD_SIGNS))) (f2 gAdd (fVar 1) (fC (.int 1))) (fVar 1))))))))
/-- are_plain_digits -/
noncomputable def b3 (call : Calls) : FS := (fRet (fOrV (f2 gEq (fVar 0) (fC (.str "0"))) (f2 gNe (f2 gIx (fVar 0) (fC (.int 0))) (fC (.str "0")))))
/-- is_number_word -/
noncomputable def b4 (call : Calls) : FS := (fSeq (fAsg (fIfE (fTest (f2 gEq (f2 gIx (fVar 0) (fC (.int 0))) (fC (.str "~")))) (fSl gSlA (fVar 0) (fPart (fC (.int 1))) fNoPart) (fVar 0)) (gtName 1)) (fSeq (fIf (fOrT (fNotT (fTru (fCall 1 (call 3) (fAc (fVar 1) fA0)))) (fOrT (fTest (f2 gGt (fL gLen (fAc (fVar 1) fA0)) (fC k_LONGEST_NUMBER))) (fTest (f2 gEq (fVar 0) (fC (.str "~0")))))) (fRet (fC (.bool false))) fNext) (fRet (fChain gLe gLe (fC k_LEAST_NUMBER) (fCall 1 (call 5) (fAc (fVar 0) fA0)) (fC k_GREATEST_NUMBER)))))
/-- number_told -/
noncomputable def b5 (call : Calls) : FS := (fRet (fIfE (fTest (f2 gEq (f2 gIx (fVar 0) (fC (.int 0))) (fC (.str "~")))) (f1 gNeg (fL gIntA (fAc (fSl gSlA (fVar 0) (fPart (fC (.int 1))) fNoPart) fA0))) (fL gIntA (fAc (fVar 0) fA0))))
/-- name_fault -/
noncomputable def b6 (call : Calls) : FS := (fSeq (fAsg (fC (.int 0)) (gtName 1)) (fSeq (fFor (fItS (fMethS mSplit (fVar 0) (fAc (fC (.str ".")) fA0))) (gtName 2) (fSeq (fIf (fOrT (fTest (f2 gGt (fL gLen (fAc (fVar 2) fA0)) (fC k_LONGEST_NAME))) (fAndT (fTest (f2 gGt (fVar 1) (fC (.int 0)))) (fTest (f2 gInA (fVar 2) (fC k_BARRED))))) (fRet (fVar 1)) fNext) (fAug 1 (gI2 (fun _ _ => true) fun i j => .int (i + j)) (f2 gAdd (fL gLen (fAc (fVar 2) fA0)) (fC (.int 1)))))) (fRet (fC .none))))
/-- fault_in -/
noncomputable def b7 (call : Calls) : FS := (fSeq (fIf (fTest (f2 gEq (fVar 0) (fC (.str "")))) (fRet (fC (.int 0))) fNext) (fSeq (fIf (fTest (f2 gInA (f2 gIx (fVar 0) (fC (.int 0))) (fC k_LETTERS))) (fRet (fCall 1 (call 6) (fAc (fVar 0) fA0))) fNext) (fSeq (fIf (fTest (f2 gEq (f2 gIx (fVar 0) (fC (.int 0))) (fC (.str "?")))) (fRet (fIfE (fAndT (fTest (f2 gLe (fL gLen (fAc (fVar 0) fA0)) (f2 gAdd (fC k_MOST_DIGITS) (fC (.int 1))))) (fTru (fCall 1 (call 3) (fAc (fSl gSlA (fVar 0) (fPart (fC (.int 1))) fNoPart) fA0)))) (fC .none) (fC (.int 0)))) fNext) (fSeq (fIf (fOrT (fTest (f2 gEq (f2 gIx (fVar 0) (fC (.int 0))) (fC (.str "~")))) (fTest (f2 gInA (f2 gIx (fVar 0) (fC (.int 0))) (fC k_DIGITS)))) (fRet (fIfE (fTru (fCall 1 (call 4) (fAc (fVar 0) fA0))) (fC .none) (fC (.int 0)))) fNext) (fRet (fC .none))))))
/-- words_of -/
noncomputable def b8 (call : Calls) : FS := (fSeq (fIf (fNotT (fTru (f1 (gIsiA "str") (fVar 0)))) (fRaise 3 ["place"] (fAc (fC (.int 0)) fA0)) fNext) (fSeq (fAsg (fL gLive fA0) (gtName 1)) (fSeq (fAsg (fC (.int 0)) (gtName 2)) (fSeq (fFor (fItS (fMethS mSplit (fVar 0) (fAc (fC (.str "\n")) fA0))) (gtName 3) (fSeq (fAsg (fC (.int 0)) (gtName 4)) (fSeq (whileL (fAndT (fTest (f2 gLt (fVar 4) (fL gLen (fAc (fVar 3) fA0)))) (fTest (f2 gNe (f2 gIx (fVar 3) (fVar 4)) (fC (.str "#"))))) (fSeq (fIf (fTest (f2 gEq (f2 gIx (fVar 3) (fVar 4)) (fC (.str " ")))) (fSeq (fAug 4 (gI2 (fun _ _ => true) fun i j => .int (i + j)) (fC (.int 1))) fCnt) fNext) (fSeq (fAsg (fCall 2 (call 2) (fAc (fVar 3) (fAc (fVar 4) fA0))) (gtName 5)) (fSeq (fAsg (fCall 1 (call 7) (fAc (fSl gSlA (fVar 3) (fPart (fVar 4)) (fPart (fVar 5))) fA0)) (gtName 6)) (fSeq (fIf (fTest (f2 gNotN (fVar 6) (fC .none))) (fRaise 1 ["line", "column"] (fAc (fVar 2) (fAc (f2 gAdd (fVar 4) (fVar 6)) fA0))) fNext) (fSeq (fDrop (fMeth mAppend (fVar 1) (fAc (fL gTup (fAc (fSl gSlA (fVar 3) (fPart (fVar 4)) (fPart (fVar 5))) (fAc (fVar 2) (fAc (fVar 4) fA0)))) fA0))) (fAsg (fVar 5) (gtName 4))))))) 1000000) (fAug 2 (gI2 (fun _ _ => true) fun i j => .int (i + j)) (fC (.int 1)))))) (fRet (fVar 1))))))
/-- _law_bag -/
noncomputable def b9 (call : Calls) : FS := (fRet (fL gLive (fAc (fC (.int 0)) (fAc (fC (.int 1234567891)) (fAc (fC (.int 0)) (fAc (fLc (fItS (fSl gSlA (fVar 0) fNoPart (fPart (fC (.int 63))))) (gtName 1) fYes (fL gAbs (fAc (fVar 1) fA0)) [1]) fA0))))))
/-- _law_take -/
noncomputable def b10 (call : Calls) : FS := (fSeq (fIf (fTest (f2 gEq (f2 gIx (fVar 0) (fC (.int 0))) (fC (.int 0)))) (fSeq (fAsg (f2 gIx (f2 gAdd (fSl gSlA (f2 gIx (fVar 0) (fC (.int 3))) (fPart (f2 gIx (fVar 0) (fC (.int 2)))) fNoPart) (fL gLst (fAc (fC (.int 0)) fA0))) (fC (.int 0))) (gtName 2)) (fSeq (fAugAt (fVar 0) (fC (.int 2)) (gI2 (fun _ _ => true) fun i j => .int (i + j)) (fC (.int 1))) (fSeq (fIf (fTest (f2 gGe (fVar 2) (f2 gPow (fC (.int 10)) (fC (.int 18))))) (fStore (fVar 2) (fVar 0) (fC (.int 0))) fNext) (fSeq (fAsg (f2 gAdd (f2 gAdd (f2 gMulA (f2 gIx (fVar 0) (fC (.int 1))) (fC (.int 48271))) (f2 gMod (fL gIntA (fAc (fVar 2) fA0)) (fC (.int 2147483647)))) (f2 gMulA (fC (.int 7919)) (f2 gIx (fVar 0) (fC (.int 2))))) (gtName 3)) (fStore (f2 gMod (fL gIntA (fAc (fVar 3) fA0)) (fC (.int 2147483647))) (fVar 0) (fC (.int 1))))))) fNext) (fSeq (fIf (fTest (f2 gGt (f2 gIx (fVar 0) (fC (.int 0))) (fC (.int 0)))) (fSeq (fAsg (f2 gMod (fL gIntA (fAc (f2 gIx (fVar 0) (fC (.int 0))) fA0)) (fVar 1)) (gtName 4)) (fSeq (fStore (f2 gDiv (fL gIntA (fAc (f2 gIx (fVar 0) (fC (.int 0))) fA0)) (fVar 1)) (fVar 0) (fC (.int 0))) (fRet (fVar 4)))) fNext) (fSeq (fAsg (f2 gMod (fL gIntA (fAc (f2 gMulA (f2 gAdd (f2 gIx (fVar 0) (fC (.int 1))) (fC (.int 1))) (fC (.int 39373))) fA0)) (fC (.int 1000000007))) (gtName 5)) (fSeq (fAsg (f2 gMod (fL gIntA (fAc (f2 gMulA (f2 gMod (fL gIntA (fAc (f2 gMulA (fVar 5) (fVar 5)) fA0)) (fC (.int 998244353))) (fC (.int 30011))) fA0)) (fC (.int 998244353))) (gtName 6)) (fRet (f2 gMod (fL gIntA (fAc (f2 gDiv (fVar 6) (fC (.int 7))) fA0)) (fVar 1)))))))
/-- _law_some -/
noncomputable def b11 (call : Calls) : FS := (fRet (f2 gIx (fVar 1) (fCall 2 (call 10) (fAc (fVar 0) (fAc (fL gLen (fAc (fVar 1) fA0)) fA0)))))
/-- _law_alike -/
noncomputable def b12 (call : Calls) : FS := (fRet (fAndV (f2 gEq (fVar 0) (fVar 1)) (f2 gEq (fL gRepr (fAc (fVar 0) fA0)) (fL gRepr (fAc (fVar 1) fA0)))))
/-- _law_barred -/
noncomputable def b13 (call : Calls) : FS := (fSeq (fAsg (fL gLst (fAc (fC (.str "module")) (fAc (fC (.str "use")) (fAc (fC (.str "give")) (fAc (fC (.str "kind")) (fAc (fC (.str "let")) (fAc (fC (.str "rec")) (fAc (fC (.str "and")) (fAc (fC (.str "in")) (fAc (fC (.str "fn")) (fAc (fC (.str "if")) (fAc (fC (.str "then")) (fAc (fC (.str "else")) (fAc (fC (.str "match")) (fAc (fC (.str "with")) fA0))))))))))))))) (gtName 0)) (fRet (f2 gAdd (fVar 0) (fL gLst (fAc (fC (.str "end")) (fAc (fC (.str "new")) (fAc (fC (.str "get")) (fAc (fC (.str "put")) (fAc (fC (.str "tell")) (fAc (fC (.str "true")) (fAc (fC (.str "false")) fA0)))))))))))
/-- _law_small_signs -/
noncomputable def b14 (call : Calls) : FS := (fRet (fC (.str "abcdefghijklmnopqrstuvwxyz")))
/-- _law_great_signs -/
noncomputable def b15 (call : Calls) : FS := (fRet (fC (.str "ABCDEFGHIJKLMNOPQRSTUVWXYZ")))
/-- _law_figures -/
noncomputable def b16 (call : Calls) : FS := (fRet (fC (.str "0123456789")))
/-- _law_odd -/
noncomputable def b17 (call : Calls) : FS := (fSeq (fAsg (fL gLst (fAc (fC .none) (fAc (fC (.bool true)) (fAc (fC (.bool false)) (fAc (fC (.int 0)) (fAc (fC (.int 1)) (fAc (f1 gNeg (fC (.int 1))) (fAc (f2 gPow (fC (.int 10)) (fC (.int 39))) (fAc (fC (.str "")) (fAc (fC (.str "x")) (fAc (fC (.str "A")) (fAc (fC (.str "let")) (fAc (fC (.str "M.x")) (fAc (fC (.str "x.y")) (fAc (fC (.str "A.B")) (fAc (fL gTup fA0) (fAc (fL gLst fA0) (fAc (fC (.dict [])) (fAc (fL gTup (fAc (fC (.int 0)) fA0)) (fAc (fL gLst (fAc (fC (.int 0)) fA0)) fA0)))))))))))))))))))) (gtName 1)) (fSeq (fAsg (f2 gAdd (fVar 1) (fL gLst (fAc (fL gTup (fAc (fC (.str "num")) fA0)) (fAc (fL gTup (fAc (fC (.str "num")) (fAc (fC (.int 1)) fA0))) (fAc (fL gTup (fAc (fC (.str "num")) (fAc (fC (.bool true)) fA0))) (fAc (fL gTup (fAc (fC (.str "num")) (fAc (fC (.int 2147483648)) fA0))) (fAc (fL gTup (fAc (fC (.str "any")) fA0)) (fAc (fL gLst (fAc (fC (.str "any")) fA0)) (fAc (fL gTup (fAc (fC (.str "var")) (fAc (fC (.int 0)) fA0))) (fAc (fL gTup (fAc (fC (.str "var")) (fAc (f1 gNeg (fC (.int 1))) fA0))) fA0)))))))))) (gtName 1)) (fSeq (fAsg (f2 gAdd (fVar 1) (fL gLst (fAc (fL gTup (fAc (fC (.str "tuple")) (fAc (fL gTup (fAc (fL gTup (fAc (fC (.str "num")) (fAc (fC (.int 1)) fA0))) fA0)) fA0))) (fAc (fL gTup (fAc (fC (.str "name")) (fAc (fC (.str "Let")) fA0))) (fAc (fL gTup (fAc (fC (.str "name")) (fAc (fC (.str "end")) fA0))) (fAc (fL gTup (fAc (fC (.str "bind")) (fAc (fC (.str "M.x")) fA0))) (fAc (fL gTup (fAc (fC (.str "make")) (fAc (fC (.str "A")) (fAc (fL gTup fA0) fA0)))) fA0))))))) (gtName 1)) (fSeq (fAsg (f2 gAdd (fVar 1) (fL gLst (fAc (fL gTup (fAc (fC (.str "record")) (fAc (fL gTup fA0) fA0))) (fAc (fL gTup (fAc (fC (.str "truth")) (fAc (fC (.int 1)) fA0))) (fAc (fL gTup (fAc (fC (.str "of")) (fAc (fC (.str "A")) (fAc (fC .none) fA0)))) (fAc (fL gTup (fAc (fC (.str "rec")) (fAc (fL gTup fA0) (fAc (fL gTup (fAc (fC (.str "num")) (fAc (fC (.int 1)) fA0))) fA0)))) (fAc (fL gTup (fAc (fC (.str "op")) (fAc (fC (.str "-")) (fAc (fC (.int 0)) (fAc (fC (.int 0)) fA0))))) fA0))))))) (gtName 1)) (fRet (fCall 2 (call 11) (fAc (fVar 0) (fAc (f2 gAdd (fVar 1) (fL gLst (fAc (fC (.dict [])) (fAc (fL gTup (fAc (fL gTup fA0) fA0)) fA0)))) fA0))))))))
/-- _law_scanned -/
noncomputable def b18 (call : Calls) : FS := (fSeq (fAsg (fL gTup (fAc (fL gLive fA0) (fAc (fC (.int 0)) (fAc (fC (.int 0)) (fAc (fC (.int 0)) fA0))))) (gtTup 4 (gtCons (gtName 1) (gtCons (gtName 2) (gtCons (gtName 3) (gtCons (gtName 4) gtNil)))))) (fSeq (whileL (fTest (f2 gLt (fVar 4) (fL gLen (fAc (fVar 0) fA0)))) (fSeq (fAsg (f2 gIx (fVar 0) (fVar 4)) (gtName 5)) (fSeq (fIf (fTest (f2 gEq (fVar 5) (fC (.str "\n")))) (fSeq (fPar3 2 3 4 (fAc (f2 gAdd (fVar 2) (fC (.int 1))) (fAc (fC (.int 0)) (fAc (f2 gAdd (fVar 4) (fC (.int 1))) fA0)))) fCnt) fNext) (fSeq (fIf (fTest (f2 gEq (fVar 5) (fC (.str "#")))) (fSeq (whileL (fAndT (fTest (f2 gLt (fVar 4) (fL gLen (fAc (fVar 0) fA0)))) (fTest (f2 gNe (f2 gIx (fVar 0) (fVar 4)) (fC (.str "\n"))))) (fPar 4 3 (fAc (f2 gAdd (fVar 4) (fC (.int 1))) (fAc (f2 gAdd (fVar 3) (fC (.int 1))) fA0))) 1000000) fCnt) fNext) (fSeq (fIf (fTest (f2 gEq (fVar 5) (fC (.str " ")))) (fSeq (fPar 4 3 (fAc (f2 gAdd (fVar 4) (fC (.int 1))) (fAc (f2 gAdd (fVar 3) (fC (.int 1))) fA0))) fCnt) fNext) (fSeq (fAsg (fCall 2 (call 20) (fAc (fVar 0) (fAc (fVar 4) fA0))) (gtTup 2 (gtCons (gtName 6) (gtCons (gtName 7) gtNil)))) (fSeq (fIf (fTest (f2 gNotN (fVar 7) (fC .none))) (fRet (fL gTup (fAc (fC (.str "text")) (fAc (fVar 2) (fAc (f2 gAdd (fVar 3) (fVar 7)) fA0))))) fNext) (fSeq (fDrop (fMeth mAppend (fVar 1) (fAc (fL gTup (fAc (fVar 6) (fAc (fVar 2) (fAc (fVar 3) fA0)))) fA0))) (fPar 4 3 (fAc (f2 gAdd (fVar 4) (fL gLen (fAc (fVar 6) fA0))) (fAc (f2 gAdd (fVar 3) (fL gLen (fAc (fVar 6) fA0))) fA0)))))))))) 1000000) (fRet (fL gTup (fAc (fC (.str "told")) (fAc (fVar 1) fA0))))))
/-- _law_run_from -/
noncomputable def b19 (call : Calls) : FS := (fSeq (fAsg (fVar 1) (gtName 3)) (fSeq (whileL (fAndT (fTest (f2 gLt (fVar 3) (fL gLen (fAc (fVar 0) fA0)))) (fTest (f2 gInA (f2 gIx (fVar 0) (fVar 3)) (fVar 2)))) (fAug 3 (gI2 (fun _ _ => true) fun i j => .int (i + j)) (fC (.int 1))) 1000000) (fRet (fSl gSlA (fVar 0) (fPart (fVar 1)) (fPart (fVar 3))))))
/-- _law_word_at -/
noncomputable def b20 (call : Calls) : FS := (fSeq (fAsg (f2 gAdd (fCall 0 (call 14) fA0) (fCall 0 (call 15) fA0)) (gtName 2)) (fSeq (fAsg (f2 gAdd (f2 gAdd (fVar 2) (fCall 0 (call 16) fA0)) (fC (.str "_"))) (gtName 3)) (fSeq (fIf (fTest (f2 gInA (f2 gIx (fVar 0) (fVar 1)) (fVar 2))) (fSeq (fAsg (fCall 3 (call 19) (fAc (fVar 0) (fAc (fVar 1) (fAc (fVar 3) fA0)))) (gtName 4)) (fSeq (fIf (fTest (f2 gGt (fL gLen (fAc (fVar 4) fA0)) (fC (.int 20)))) (fRet (fL gTup (fAc (fC .none) (fAc (fC (.int 0)) fA0)))) fNext) (fSeq (fAsg (f2 gAdd (fVar 1) (fL gLen (fAc (fVar 4) fA0))) (gtName 5)) (fSeq (fIf (fAndT (fTest (f2 gInA (f2 gIx (fVar 0) (fVar 1)) (fCall 0 (call 15) fA0))) (fAndT (fTest (f2 gEq (fSl gSlA (fVar 0) (fPart (fVar 5)) (fPart (f2 gAdd (fVar 5) (fC (.int 1))))) (fC (.str ".")))) (fTest (f2 gInA (fSl gSlA (fVar 0) (fPart (f2 gAdd (fVar 5) (fC (.int 1)))) (fPart (f2 gAdd (fVar 5) (fC (.int 2))))) (fL gTupleA (fAc (fVar 2) fA0)))))) (fSeq (fAsg (fCall 3 (call 19) (fAc (fVar 0) (fAc (f2 gAdd (fVar 5) (fC (.int 1))) (fAc (fVar 3) fA0)))) (gtName 6)) (fSeq (fIf (fOrT (fTest (f2 gGt (fL gLen (fAc (fVar 6) fA0)) (fC (.int 20)))) (fTest (f2 gInA (fVar 6) (fCall 0 (call 13) fA0)))) (fRet (fL gTup (fAc (fC .none) (fAc (f2 gAdd (fL gLen (fAc (fVar 4) fA0)) (fC (.int 1))) fA0)))) fNext) (fRet (fL gTup (fAc (f2 gAdd (f2 gAdd (fVar 4) (fC (.str "."))) (fVar 6)) (fAc (fC .none) fA0)))))) fNext) (fRet (fL gTup (fAc (fVar 4) (fAc (fC .none) fA0)))))))) fNext) (fSeq (fIf (fOrT (fTest (f2 gInA (f2 gIx (fVar 0) (fVar 1)) (fC (.str "~?")))) (fTest (f2 gInA (f2 gIx (fVar 0) (fVar 1)) (fCall 0 (call 16) fA0)))) (fSeq (fAsg (fIfE (fTest (f2 gInA (f2 gIx (fVar 0) (fVar 1)) (fC (.str "~?")))) (f2 gIx (fVar 0) (fVar 1)) (fC (.str ""))) (gtName 7)) (fSeq (fAsg (fCall 3 (call 19) (fAc (fVar 0) (fAc (f2 gAdd (fVar 1) (fL gLen (fAc (fVar 7) fA0))) (fAc (fCall 0 (call 16) fA0) fA0)))) (gtName 8)) (fSeq (fIf (fOrT (fTest (f2 gEq (fVar 8) (fC (.str "")))) (fOrT (fAndT (fTest (f2 gGt (fL gLen (fAc (fVar 8) fA0)) (fC (.int 1)))) (fTest (f2 gEq (f2 gIx (fVar 8) (fC (.int 0))) (fC (.str "0"))))) (fAndT (fTest (f2 gEq (fVar 7) (fC (.str "~")))) (fTest (f2 gEq (fVar 8) (fC (.str "0"))))))) (fRet (fL gTup (fAc (fC .none) (fAc (fC (.int 0)) fA0)))) fNext) (fSeq (fIf (fTest (f2 gEq (fVar 7) (fC (.str "?")))) (fRet (fIfE (fTest (f2 gGt (fL gLen (fAc (fVar 8) fA0)) (fC (.int 9)))) (fL gTup (fAc (fC .none) (fAc (fC (.int 0)) fA0))) (fL gTup (fAc (f2 gAdd (fC (.str "?")) (fVar 8)) (fAc (fC .none) fA0))))) fNext) (fSeq (fAsg (fIfE (fTest (f2 gLt (fL gLen (fAc (fVar 8) fA0)) (fC (.int 12)))) (fL gIntA (fAc (fVar 8) fA0)) (f2 gPow (fC (.int 10)) (fC (.int 12)))) (gtName 9)) (fRet (fIfE (fTest (f2 gLe (fVar 9) (f2 gAdd (fC (.int 2147483647)) (fL gIntA (fAc (f2 gEq (fVar 7) (fC (.str "~"))) fA0))))) (fL gTup (fAc (f2 gAdd (fVar 7) (fVar 8)) (fAc (fC .none) fA0))) (fL gTup (fAc (fC .none) (fAc (fC (.int 0)) fA0)))))))))) fNext) (fSeq (fIf (fTest (f2 gEq (fSl gSlA (fVar 0) (fPart (fVar 1)) (fPart (f2 gAdd (fVar 1) (fC (.int 2))))) (fC (.str "->")))) (fRet (fL gTup (fAc (fC (.str "->")) (fAc (fC .none) fA0)))) fNext) (fRet (fIfE (fTest (f2 gInA (f2 gIx (fVar 0) (fVar 1)) (fC (.str "-=<+*(){},.|:_")))) (fL gTup (fAc (f2 gIx (fVar 0) (fVar 1)) (fAc (fC .none) fA0))) (fL gTup (fAc (fC .none) (fAc (fC (.int 0)) fA0))))))))))
/-- _law_heard -/
noncomputable def b21 (call : Calls) : FS := (fTryN 2 subC (fRet (fL gTup (fAc (fC (.str "told")) (fAc (fCallL 1 (call 8) (fAc (fVar 0) fA0)) fA0)))) [⟨1, some 1, [.k (.str "text"), .fld "line", .fld "column"]⟩, ⟨3, some 1, [.k (.str "wrong"), .fld "place"]⟩, ⟨0, none, [.k (.str "other")]⟩])
/-- _law_near_word -/
noncomputable def b22 (call : Calls) : FS := (fSeq (fAsg (fL gLst (fAc (fC (.str "x")) (fAc (fC (.str "List")) (fAc (fC (.str "List.map")) (fAc (fC (.str "M.Cons")) (fAc (fC (.str "let")) (fAc (fC (.str "give")) (fAc (fC (.str "->")) (fAc (fC (.str "-")) (fAc (fC (.str "=")) (fAc (fC (.str "<")) (fAc (fC (.str "+")) (fAc (fC (.str "*")) (fAc (fC (.str "(")) (fAc (fC (.str ")")) (fAc (fC (.str "{")) (fAc (fC (.str "}")) (fAc (fC (.str ",")) fA0)))))))))))))))))) (gtName 1)) (fSeq (fAsg (f2 gAdd (fVar 1) (fL gLst (fAc (fC (.str ".")) (fAc (fC (.str "|")) (fAc (fC (.str ":")) (fAc (fC (.str "_")) (fAc (fC (.str "5")) (fAc (fC (.str "~7")) (fAc (fC (.str "0")) (fAc (fC (.str "2147483647")) (fAc (fC (.str "~2147483648")) (fAc (fC (.str "?0")) (fAc (fC (.str "?123456789")) (fAc (fC (.str "A.B.c")) (fAc (fC (.str "x.y")) fA0))))))))))))))) (gtName 1)) (fSeq (fAsg (fL gLive (fAc (fC (.str "~0")) (fAc (fC (.str "05")) (fAc (fC (.str "2147483648")) (fAc (fC (.str "~2147483649")) (fAc (fC (.str "?01")) (fAc (fC (.str "?")) (fAc (fC (.str "~")) (fAc (fC (.str "?1234567890")) (fAc (f2 gMulA (fC (.str "a")) (fC (.int 20))) (fAc (f2 gMulA (fC (.str "a")) (fC (.int 21))) (fAc (f2 gAdd (f2 gMulA (fC (.str "A")) (fC (.int 21))) (fC (.str ".x"))) fA0)))))))))))) (gtName 2)) (fSeq (fAsg (f2 gAddL (fVar 2) (fL gLst (fAc (f2 gAdd (fC (.str "A.")) (f2 gMulA (fC (.str "b")) (fC (.int 21)))) (fAc (fC (.str "A.get")) (fAc (fC (.str "A.5")) (fAc (fC (.str "A._)")) (fAc (fC (.str "A.")) (fAc (fC (.str ">")) (fAc (fC (.str "/")) (fAc (fC (.str "$")) (fAc (fC (.str "!")) (fAc (fC (.str "[")) (fAc (fC (.str "'")) (fAc (fC (.str "~~1")) fA0)))))))))))))) (gtName 2)) (fSeq (fDrop (fMeth mAppend (fVar 2) (fAc (f2 gAdd (f2 gAdd (f2 gMulA (fC (.str "x")) (fC (.int 20))) (fC (.str "."))) (f2 gMulA (fC (.str "y")) (fC (.int 20)))) fA0))) (fSeq (fAsg (f2 gAdd (fVar 1) (fLc (fRng rng1 (fAc (fC (.int 6)) fA0)) (gtName 3) fYes (f2 gAdd (fCall 2 (call 11) (fAc (fVar 0) (fAc (fL gLst (fAc (fC (.str "")) (fAc (fC (.str "M.")) fA0))) fA0))) (fCall 2 (call 11) (fAc (fVar 0) (fAc (fCall 0 (call 13) fA0) fA0)))) [3])) (gtName 1)) (fRet (fCall 2 (call 11) (fAc (fVar 0) (fAc (fIfE (fTest (f2 gEq (fCall 2 (call 10) (fAc (fVar 0) (fAc (fC (.int 6)) fA0))) (fC (.int 0)))) (fVar 2) (fVar 1)) fA0))))))))))
/-- law -/
noncomputable def b23 (call : Calls) : FS := (fSeq (fAsg (fCallL 1 (call 9) (fAc (fVar 0) fA0)) (gtName 1)) (fSeq (fFor (fRng rng1 (fAc (fC (.int 8)) fA0)) (gtName 2) (fSeq (fAsg (fCall 2 (call 11) (fAc (fVar 1) (fAc (fL gLst (fAc (fC (.str "")) (fAc (fC (.str "")) (fAc (fC (.str " ")) (fAc (fC (.str "# x\n")) fA0))))) fA0))) (gtName 3)) (fSeq (fFor (fRng rng1 (fAc (fCall 2 (call 11) (fAc (fVar 1) (fAc (fL gLst (fAc (fC (.int 0)) (fAc (fC (.int 3)) (fAc (fC (.int 6)) (fAc (fC (.int 10)) fA0))))) fA0))) fA0)) (gtName 4) (fSeq (fAsg (fCall 2 (call 11) (fAc (fVar 1) (fAc (fL gLst (fAc (fC (.str "")) (fAc (fC (.str "")) (fAc (fC (.str " ")) (fAc (fC (.str "  ")) (fAc (fC (.str "\n")) (fAc (fC (.str " # a ( \n")) (fAc (fC (.str "\n\n  ")) (fAc (fC (.str "#\n")) fA0))))))))) fA0))) (gtName 5)) (fAsg (f2 gAdd (f2 gAdd (fVar 3) (fCall 1 (call 22) (fAc (fVar 1) fA0))) (fVar 5)) (gtName 3)))) (fSeq (fAsg (f2 gAdd (fVar 3) (fCall 2 (call 11) (fAc (fVar 1) (fAc (fL gLst (fAc (fC (.str "")) (fAc (fC (.str "#")) (fAc (fC (.str " # ~0 $")) (fAc (fC (.str "\n")) fA0))))) fA0)))) (gtName 3)) (fSeq (fAsg (fCall 1 (call 18) (fAc (fVar 3) fA0)) (gtName 6)) (fFor (fRng rng1 (fAc (fC (.int 2)) fA0)) (gtName 7) (fSeq (fAsg (fCallL 1 (call 21) (fAc (fVar 3) fA0)) (gtName 8)) (fSeq (fIf (fNotT (fTru (fCall 2 (call 12) (fAc (fVar 8) (fAc (fVar 6) fA0))))) (fRet (fC (.bool false))) fNext) (fIf (fTest (f2 gEq (f2 gIx (fVar 8) (fC (.int 0))) (fC (.str "told")))) (fSeq (fDrop (fMeth mAppend (f2 gIx (fVar 8) (fC (.int 1))) (fAc (fC .none) fA0))) (fAsg (fCall 1 (call 18) (fAc (fVar 3) fA0)) (gtName 6))) fNext))))))))) (fSeq (fAsg (fCall 2 (call 11) (fAc (fVar 1) (fAc (fL gLst (fAc (fCall 1 (call 17) (fAc (fVar 1) fA0)) (fAc (fCall 1 (call 17) (fAc (fVar 1) fA0)) (fAc (fC (.dict [(.none, .none)])) fA0)))) fA0))) (gtName 9)) (fRet (fOrV (f1 (gIsiA "str") (fVar 9)) (fCall 2 (call 12) (fAc (fCall 1 (call 21) (fAc (fVar 9) fA0)) (fAc (fL gTup (fAc (fC (.str "wrong")) (fAc (fC (.int 0)) fA0))) fA0))))))))
noncomputable def callN : Nat → Calls
  | 0 => fun _ _ _ => .bad
  | n + 1 => fun id ws S => match id with
    | 0 => runB 4 (b0 (callN n)) ws S
    | 1 => runB 4 (b1 (callN n)) ws S
    | 2 => runB 4 (b2 (callN n)) ws S
    | 3 => runB 1 (b3 (callN n)) ws S
    | 4 => runB 2 (b4 (callN n)) ws S
    | 5 => runB 1 (b5 (callN n)) ws S
    | 6 => runB 3 (b6 (callN n)) ws S
    | 7 => runB 1 (b7 (callN n)) ws S
    | 8 => if 2 ≤ n then runX 7 (b8 (callN n)) ws S else .bad
    | 9 => runB 2 (b9 (callN n)) ws S
    | 10 => runB 7 (b10 (callN n)) ws S
    | 11 => runB 2 (b11 (callN n)) ws S
    | 12 => runB 2 (b12 (callN n)) ws S
    | 13 => runB 1 (b13 (callN n)) ws S
    | 14 => runB 0 (b14 (callN n)) ws S
    | 15 => runB 0 (b15 (callN n)) ws S
    | 16 => runB 0 (b16 (callN n)) ws S
    | 17 => runB 2 (b17 (callN n)) ws S
    | 18 => runB 8 (b18 (callN n)) ws S
    | 19 => runB 4 (b19 (callN n)) ws S
    | 20 => runB 10 (b20 (callN n)) ws S
    | 21 => runB 2 (b21 (callN n)) ws S
    | 22 => runB 4 (b22 (callN n)) ws S
    | 23 => if 2 ≤ n then runB 10 (b23 (callN n)) ws S else .bad
    | _ => .bad
/-- the defs as they are called -/
structure Tab (P : Program) (w : World) (K : PySem.W.Frag) (mg : Str → Option Value) (base : Heap) (ct : Nat → Option Addr) (n : Nat) (call : Calls) : Prop where
  o0 : Callee P w K mg base ct n "run_end" P0 (call 0)
  o1 : Callee P w K mg base ct n "name_end" P1 (call 1)
  o2 : Callee P w K mg base ct n "word_end" P2 (call 2)
  o3 : Callee P w K mg base ct n "are_plain_digits" P3 (call 3)
  o4 : Callee P w K mg base ct n "is_number_word" P4 (call 4)
  o5 : Callee P w K mg base ct n "number_told" P5 (call 5)
  o6 : Callee P w K mg base ct n "name_fault" P6 (call 6)
  o7 : Callee P w K mg base ct n "fault_in" P7 (call 7)
  o8 : CalleeC (L2.CX P w) P w K mg base ct n "words_of" P8 (call 8)
  o9 : Callee P w K mg base ct n "_law_bag" P9 (call 9)
  o10 : Callee P w K mg base ct n "_law_take" P10 (call 10)
  o11 : Callee P w K mg base ct n "_law_some" P11 (call 11)
  o12 : Callee P w K mg base ct n "_law_alike" P12 (call 12)
  o13 : Callee P w K mg base ct n "_law_barred" P13 (call 13)
  o14 : Callee P w K mg base ct n "_law_small_signs" P14 (call 14)
  o15 : Callee P w K mg base ct n "_law_great_signs" P15 (call 15)
  o16 : Callee P w K mg base ct n "_law_figures" P16 (call 16)
  o17 : Callee P w K mg base ct n "_law_odd" P17 (call 17)
  o18 : Callee P w K mg base ct n "_law_scanned" P18 (call 18)
  o19 : Callee P w K mg base ct n "_law_run_from" P19 (call 19)
  o20 : Callee P w K mg base ct n "_law_word_at" P20 (call 20)
  o21 : Callee P w K mg base ct n "_law_heard" P21 (call 21)
  o22 : Callee P w K mg base ct n "_law_near_word" P22 (call 22)
  o23 : Callee P w K mg base ct n "law" P23 (call 23)
  r_NoText : KRaise P w K mg base ct 1 "NoText" ["line", "column"]
  r_Wrong : KRaise P w K mg base ct 3 "Wrong" ["place"]
  t_NoText : KTake K mg ct subC 1 "NoText"
  t_SwornError : KTake K mg ct subC 0 "SwornError"
  t_Wrong : KTake K mg ct subC 3 "Wrong"
  f_NoText_column : KField K ct subC 1 "column"
  f_NoText_line : KField K ct subC 1 "line"
  f_Wrong_place : KField K ct subC 3 "place"
  w_Nothing : KMake P w K mg base "Nothing"
  c_BARRED : KCon K mg "BARRED" k_BARRED
  c_DIGITS : KCon K mg "DIGITS" k_DIGITS
  c_GREATEST_NUMBER : KCon K mg "GREATEST_NUMBER" k_GREATEST_NUMBER
  c_GREAT_LETTERS : KCon K mg "GREAT_LETTERS" k_GREAT_LETTERS
  c_LEAST_NUMBER : KCon K mg "LEAST_NUMBER" k_LEAST_NUMBER
  c_LETTERS : KCon K mg "LETTERS" k_LETTERS
  c_LONGEST_NAME : KCon K mg "LONGEST_NAME" k_LONGEST_NAME
  c_LONGEST_NUMBER : KCon K mg "LONGEST_NUMBER" k_LONGEST_NUMBER
  c_MOST_DIGITS : KCon K mg "MOST_DIGITS" k_MOST_DIGITS
  c_NAME_SIGNS : KCon K mg "NAME_SIGNS" k_NAME_SIGNS
  c_WORD_SIGNS : KCon K mg "WORD_SIGNS" k_WORD_SIGNS
  b_abs : mg "abs" = none
  b_int : mg "int" = none
  b_isinstance : mg "isinstance" = none
  b_len : mg "len" = none
  b_range : mg "range" = none
  b_repr : mg "repr" = none
  b_str : mg "str" = none
  b_tuple : mg "tuple" = none
/-! each keeps to it -/
section
variable {P : Program} {w : World} {K : PySem.W.Frag} {mg : Str → Option Value} {base : Heap} {ct : Nat → Option Addr} {n : Nat} {call : Calls} {f : Addr} {cdv : Value} {A : Around} {outer : List Env} {s : Shared} {H : Hp} {E : XK}
theorem d0 (T : Tab P w K mg base ct n call) (hr : Room n (A.deeper (envOfC "run_end" (defScope st0) s.heap.objs.size f cdv))) (gd : A.guards = some []) (hS : FnScope N0 P0 (defScope st0) := sc0) :
    PSs (bodyX P w K mg base N0 "run_end" (defScope st0) f cdv A outer s H E) (defBody st0) (tS ⟨K, ct⟩ NX (b0 call)) := by
  unfold b0
  exact (s_cons (s_set 3 hS.nd (iv 1)) (s_cons (s_while 1000000 PassesOwn.never ((w_and (t_cmp sim_lt (iv 3) (i_callB c_len (by rfl) T.b_len (by decide +kernel) (ac (iv 0) a0)) (by rfl)) (w_and1 (t_cmp sim_inA (i_ix (iv 0) (iv 3)) (iv 2) (by rfl))))).pt (s_one (s_aug 3 hS.nd sim_iaddI ii))) (s_one (s_ret (iv 3)))))
theorem d1 (T : Tab P w K mg base ct n call) (hr : Room n (A.deeper (envOfC "name_end" (defScope st1) s.heap.objs.size f cdv))) (gd : A.guards = some []) (hS : FnScope N1 P1 (defScope st1) := sc1) :
    PSs (bodyX P w K mg base N1 "name_end" (defScope st1) f cdv A outer s H E) (defBody st1) (tS ⟨K, ct⟩ NX (b1 call)) := by
  unfold b1
  exact (s_cons (s_set 2 hS.nd (cCall (T.o0) hr gd (ac (iv 0) (ac (iv 1) (ac (kCon T.c_NAME_SIGNS) a0))))) (s_cons (s_set 3 hS.nd (i_and (i_cmp sim_inA (i_ix (iv 0) (iv 1)) (kCon T.c_GREAT_LETTERS) (by rfl)) (i_and (i_cmp (sim_eq (hu64 hr)) (i_slA (iv 0) (o_some (iv 2)) (o_some (i_op sim_add (iv 2) ii))) is (by rfl)) (i_one (i_cmp sim_lt (i_op sim_add (iv 2) ii) (i_callB c_len (by rfl) T.b_len (by decide +kernel) (ac (iv 0) a0)) (by rfl)))))) (s_cons (s_if ((w_and (t_tru (iv 3)) (w_and1 (t_cmp sim_inA (i_ix (iv 0) (i_op sim_add (iv 2) ii)) (kCon T.c_LETTERS) (by rfl))))).pt (s_one (s_ret (cCall (T.o0) hr gd (ac (iv 0) (ac (i_op sim_add (iv 2) ii) (ac (kCon T.c_NAME_SIGNS) a0)))))) s_nil) (s_one (s_ret (iv 2))))))
theorem d2 (T : Tab P w K mg base ct n call) (hr : Room n (A.deeper (envOfC "word_end" (defScope st2) s.heap.objs.size f cdv))) (gd : A.guards = some []) (hS : FnScope N2 P2 (defScope st2) := sc2) :
    PSs (bodyX P w K mg base N2 "word_end" (defScope st2) f cdv A outer s H E) (defBody st2) (tS ⟨K, ct⟩ NX (b2 call)) := by
  unfold b2
  exact (s_cons (s_set 2 hS.nd (i_ix (iv 0) (iv 1))) (s_cons (s_if (t_cmp sim_inA (iv 2) (kCon T.c_LETTERS) (by rfl)) (s_one (s_ret (cCall (T.o1) hr gd (ac (iv 0) (ac (iv 1) a0))))) s_nil) (s_cons (s_if (t_cmp sim_inA (iv 2) (kCon T.c_DIGITS) (by rfl)) (s_one (s_ret (cCall (T.o0) hr gd (ac (iv 0) (ac (iv 1) (ac (kCon T.c_DIGITS) a0)))))) s_nil) (s_cons (s_if ((w_or (t_cmp (sim_eq (hu64 hr)) (iv 2) is (by rfl)) (w_or1 (t_cmp (sim_eq (hu64 hr)) (iv 2) is (by rfl))))).pt (s_cons (s_set 3 hS.nd (cCall (T.o0) hr gd (ac (iv 0) (ac (i_op sim_add (iv 1) ii) (ac (kCon T.c_DIGITS) a0))))) (s_one (s_ret (i_ife (t_cmp sim_gt (iv 3) (i_op sim_add (iv 1) ii) (by rfl)) (iv 3) (iv 1))))) s_nil) (s_cons (s_if (t_cmp (sim_eq (hu64 hr)) (i_slA (iv 0) (o_some (iv 1)) (o_some (i_op sim_add (iv 1) ii))) is (by rfl)) (s_one (s_ret (i_op sim_add (iv 1) ii))) s_nil) (s_one (s_ret (i_ife (t_cmp sim_inA (iv 2) (kCon T.c_WORD_SIGNS) (by rfl)) (i_op sim_add (iv 1) ii) (iv 1)))))))))
theorem d3 (T : Tab P w K mg base ct n call) (hr : Room n (A.deeper (envOfC "are_plain_digits" (defScope st3) s.heap.objs.size f cdv))) (gd : A.guards = some []) (hS : FnScope N3 P3 (defScope st3) := sc3) :
    PSs (bodyX P w K mg base N3 "are_plain_digits" (defScope st3) f cdv A outer s H E) (defBody st3) (tS ⟨K, ct⟩ NX (b3 call)) := by
  unfold b3
  exact (s_one (s_ret (i_or (i_cmp (sim_eq (hu64 hr)) (iv 0) is (by rfl)) (i_one (i_cmp (sim_ne (hu64 hr)) (i_ix (iv 0) ii) is (by rfl))))))
theorem d4 (T : Tab P w K mg base ct n call) (hr : Room n (A.deeper (envOfC "is_number_word" (defScope st4) s.heap.objs.size f cdv))) (gd : A.guards = some []) (hS : FnScope N4 P4 (defScope st4) := sc4) :
    PSs (bodyX P w K mg base N4 "is_number_word" (defScope st4) f cdv A outer s H E) (defBody st4) (tS ⟨K, ct⟩ NX (b4 call)) := by
  unfold b4
  exact (s_cons (s_set 1 hS.nd (i_ife (t_cmp (sim_eq (hu64 hr)) (i_ix (iv 0) ii) is (by rfl)) (i_slA (iv 0) (o_some ii) o_none) (iv 0))) (s_cons (s_if ((w_or (t_not (t_tru (cCall (T.o3) hr gd (ac (iv 1) a0)))) (w_or (t_cmp sim_gt (i_callB c_len (by rfl) T.b_len (by decide +kernel) (ac (iv 1) a0)) (kCon T.c_LONGEST_NUMBER) (by rfl)) (w_or1 (t_cmp (sim_eq (hu64 hr)) (iv 0) is (by rfl)))))).pt (s_one (s_ret ib)) s_nil) (s_one (s_ret (i_chain sim_le sim_le (kCon T.c_LEAST_NUMBER) (cCall (T.o5) hr gd (ac (iv 0) a0)) (kCon T.c_GREATEST_NUMBER))))))
theorem d5 (T : Tab P w K mg base ct n call) (hr : Room n (A.deeper (envOfC "number_told" (defScope st5) s.heap.objs.size f cdv))) (gd : A.guards = some []) (hS : FnScope N5 P5 (defScope st5) := sc5) :
    PSs (bodyX P w K mg base N5 "number_told" (defScope st5) f cdv A outer s H E) (defBody st5) (tS ⟨K, ct⟩ NX (b5 call)) := by
  unfold b5
  exact (s_one (s_ret (i_ife (t_cmp (sim_eq (hu64 hr)) (i_ix (iv 0) ii) is (by rfl)) (i_neg (i_callT c_intA (by rfl) T.b_int (by decide +kernel) (ac (i_slA (iv 0) (o_some ii) o_none) a0))) (i_callT c_intA (by rfl) T.b_int (by decide +kernel) (ac (iv 0) a0)))))
theorem d6 (T : Tab P w K mg base ct n call) (hr : Room n (A.deeper (envOfC "name_fault" (defScope st6) s.heap.objs.size f cdv))) (gd : A.guards = some []) (hS : FnScope N6 P6 (defScope st6) := sc6) :
    PSs (bodyX P w K mg base N6 "name_fault" (defScope st6) f cdv A outer s H E) (defBody st6) (tS ⟨K, ct⟩ NX (b6 call)) := by
  unfold b6
  exact (s_cons (s_set 1 hS.nd ii) (s_cons (s_for PassesOwn.never rfl (w_seq (i_methS PySem.F.slot_str_split PySem.F.type_str_split m_split (iv 0) (ac is a0))) (g_name 2 hS.nd ) (s_cons (s_if ((w_or (t_cmp sim_gt (i_callB c_len (by rfl) T.b_len (by decide +kernel) (ac (iv 2) a0)) (kCon T.c_LONGEST_NAME) (by rfl)) (w_or1 ((w_and (t_cmp sim_gt (iv 1) ii (by rfl)) (w_and1 (t_cmp sim_inA (iv 2) (kCon T.c_BARRED) (by rfl))))).pt))).pt (s_one (s_ret (iv 1))) s_nil) (s_one (s_aug 1 hS.nd sim_iaddI (i_op sim_add (i_callB c_len (by rfl) T.b_len (by decide +kernel) (ac (iv 2) a0)) ii))))) (s_one (s_ret inn))))
theorem d7 (T : Tab P w K mg base ct n call) (hr : Room n (A.deeper (envOfC "fault_in" (defScope st7) s.heap.objs.size f cdv))) (gd : A.guards = some []) (hS : FnScope N7 P7 (defScope st7) := sc7) :
    PSs (bodyX P w K mg base N7 "fault_in" (defScope st7) f cdv A outer s H E) (defBody st7) (tS ⟨K, ct⟩ NX (b7 call)) := by
  unfold b7
  exact (s_cons (s_if (t_cmp (sim_eq (hu64 hr)) (iv 0) is (by rfl)) (s_one (s_ret ii)) s_nil) (s_cons (s_if (t_cmp sim_inA (i_ix (iv 0) ii) (kCon T.c_LETTERS) (by rfl)) (s_one (s_ret (cCall (T.o6) hr gd (ac (iv 0) a0)))) s_nil) (s_cons (s_if (t_cmp (sim_eq (hu64 hr)) (i_ix (iv 0) ii) is (by rfl)) (s_one (s_ret (i_ife ((w_and (t_cmp sim_le (i_callB c_len (by rfl) T.b_len (by decide +kernel) (ac (iv 0) a0)) (i_op sim_add (kCon T.c_MOST_DIGITS) ii) (by rfl)) (w_and1 (t_tru (cCall (T.o3) hr gd (ac (i_slA (iv 0) (o_some ii) o_none) a0)))))).pt inn ii))) s_nil) (s_cons (s_if ((w_or (t_cmp (sim_eq (hu64 hr)) (i_ix (iv 0) ii) is (by rfl)) (w_or1 (t_cmp sim_inA (i_ix (iv 0) ii) (kCon T.c_DIGITS) (by rfl))))).pt (s_one (s_ret (i_ife (t_tru (cCall (T.o4) hr gd (ac (iv 0) a0))) inn ii))) s_nil) (s_one (s_ret inn))))))
theorem d8 (T : Tab P w K mg base ct n call) (h2 : 2 ≤ n) (hr : Room n (A.deeper (envOfC "words_of" (defScope st8) s.heap.objs.size f cdv))) (gd : A.guards = some []) (hS : FnScope N8 P8 (defScope st8) := sc8) :
    PSs (bodyE P w K mg base N8 "words_of" (defScope st8) f cdv A outer s H E) (defBody st8) (tS ⟨K, ct⟩ (fun _ => E) (b8 call)) := by
  have tk : Takes (bodyE P w K mg base N8 "words_of" (defScope st8) f cdv A outer s H E) (fun cls d _ H => E cls d H) := L2.takes_of rfl rfl rfl rfl
  have pw : PassesOwn (model P w) (bodyE P w K mg base N8 "words_of" (defScope st8) f cdv A outer s H E).A (bodyE P w K mg base N8 "words_of" (defScope st8) f cdv A outer s H E).env (bodyE P w K mg base N8 "words_of" (defScope st8) f cdv A outer s H E).xe := L2.passes_of rfl
  unfold b8
  exact (s_cons (s_if (t_not (t_tru (i_isiA "str" (by decide) (by rfl) T.b_isinstance (by rfl) T.b_str (by decide +kernel) (iv 0)))) (s_one (raise_E T.r_Wrong rfl tk (fun _ _ _ _ h => h) (room_two h2 hr) (by decide) (ac ii a0))) s_nil) (s_cons (s_set 1 hS.nd (i_live a0)) (s_cons (s_set 2 hS.nd ii) (s_cons (s_for pw rfl (w_seq (i_methS PySem.F.slot_str_split PySem.F.type_str_split m_split (iv 0) (ac is a0))) (g_name 3 hS.nd ) (s_cons (s_set 4 hS.nd ii) (s_cons (s_while 1000000 pw ((w_and (t_cmp sim_lt (iv 4) (i_callB c_len (by rfl) T.b_len (by decide +kernel) (ac (iv 3) a0)) (by rfl)) (w_and1 (t_cmp (sim_ne (hu64 hr)) (i_ix (iv 3) (iv 4)) is (by rfl))))).pt (s_cons (s_if (t_cmp (sim_eq (hu64 hr)) (i_ix (iv 3) (iv 4)) is (by rfl)) (s_cons (s_aug 4 hS.nd sim_iaddI ii) (s_one s_cnt)) s_nil) (s_cons (s_set 5 hS.nd (cCallE (CX := CX0) (T.o2) (fun _ => pass0E) hr gd (ac (iv 3) (ac (iv 4) a0)))) (s_cons (s_set 6 hS.nd (cCallE (CX := CX0) (T.o7) (fun _ => pass0E) hr gd (ac (i_slA (iv 3) (o_some (iv 4)) (o_some (iv 5))) a0))) (s_cons (s_if (t_cmp sim_notN (iv 6) inn (by rfl)) (s_one (raise_E T.r_NoText rfl tk (fun _ _ _ _ h => h) (room_two h2 hr) (by decide) (ac (iv 2) (ac (i_op sim_add (iv 4) (iv 6)) a0)))) s_nil) (s_cons (s_expr (i_meth PySem.F.slot_list_append PySem.F.type_list_append m_append (iv 1) (ac (i_tup (ac (i_slA (iv 3) (o_some (iv 4)) (o_some (iv 5))) (ac (iv 2) (ac (iv 4) a0)))) a0))) (s_one (s_set 4 hS.nd (iv 5))))))))) (s_one (s_aug 2 hS.nd sim_iaddI ii))))) (s_one (s_ret (iv 1)))))))
theorem d9 (T : Tab P w K mg base ct n call) (hr : Room n (A.deeper (envOfC "_law_bag" (defScope st9) s.heap.objs.size f cdv))) (gd : A.guards = some []) (hS : FnScope N9 P9 (defScope st9) := sc9) :
    PSs (bodyX P w K mg base N9 "_law_bag" (defScope st9) f cdv A outer s H E) (defBody st9) (tS ⟨K, ct⟩ NX (b9 call)) := by
  unfold b9
  exact (s_one (s_ret (i_live (ac ii (ac ii (ac ii (ac (i_lc (own := [("cell", 1)]) rfl hS.nd (w_seq (i_slA (iv 0) o_none (o_some ii))) (blk_of (by kernel_rfl)) (fun _ _ _ _ _ => (gb_name 1 hS.nd rfl (by decide))) (fun _ _ _ _ _ => ts_nil) (fun _ _ _ _ _ => (i_callB c_abs (by rfl) T.b_abs (by decide +kernel) (ac (iv 1) a0)))) a0)))))))
theorem d10 (T : Tab P w K mg base ct n call) (hr : Room n (A.deeper (envOfC "_law_take" (defScope st10) s.heap.objs.size f cdv))) (gd : A.guards = some []) (hS : FnScope N10 P10 (defScope st10) := sc10) :
    PSs (bodyX P w K mg base N10 "_law_take" (defScope st10) f cdv A outer s H E) (defBody st10) (tS ⟨K, ct⟩ NX (b10 call)) := by
  unfold b10
  exact (s_cons (s_if (t_cmp (sim_eq (hu64 hr)) (i_ix (iv 0) ii) ii (by rfl)) (s_cons (s_set 2 hS.nd (i_ix (i_op sim_add (i_slA (i_ix (iv 0) ii) (o_some (i_ix (iv 0) ii)) o_none) (i_lst (ac ii a0))) ii)) (s_cons (s_augAt sim_iaddI (iv 0) ii ii) (s_cons (s_if (t_cmp sim_ge (iv 2) (i_op sim_pow ii ii) (by rfl)) (s_one (s_store (iv 2) (iv 0) ii)) s_nil) (s_cons (s_set 3 hS.nd (i_op sim_add (i_op sim_add (i_op sim_mulA (i_ix (iv 0) ii) ii) (i_op sim_mod (i_callT c_intA (by rfl) T.b_int (by decide +kernel) (ac (iv 2) a0)) ii)) (i_op sim_mulA ii (i_ix (iv 0) ii)))) (s_one (s_store (i_op sim_mod (i_callT c_intA (by rfl) T.b_int (by decide +kernel) (ac (iv 3) a0)) ii) (iv 0) ii)))))) s_nil) (s_cons (s_if (t_cmp sim_gt (i_ix (iv 0) ii) ii (by rfl)) (s_cons (s_set 4 hS.nd (i_op sim_mod (i_callT c_intA (by rfl) T.b_int (by decide +kernel) (ac (i_ix (iv 0) ii) a0)) (iv 1))) (s_cons (s_store (i_op sim_div (i_callT c_intA (by rfl) T.b_int (by decide +kernel) (ac (i_ix (iv 0) ii) a0)) (iv 1)) (iv 0) ii) (s_one (s_ret (iv 4))))) s_nil) (s_cons (s_set 5 hS.nd (i_op sim_mod (i_callT c_intA (by rfl) T.b_int (by decide +kernel) (ac (i_op sim_mulA (i_op sim_add (i_ix (iv 0) ii) ii) ii) a0)) ii)) (s_cons (s_set 6 hS.nd (i_op sim_mod (i_callT c_intA (by rfl) T.b_int (by decide +kernel) (ac (i_op sim_mulA (i_op sim_mod (i_callT c_intA (by rfl) T.b_int (by decide +kernel) (ac (i_op sim_mulA (iv 5) (iv 5)) a0)) ii) ii) a0)) ii)) (s_one (s_ret (i_op sim_mod (i_callT c_intA (by rfl) T.b_int (by decide +kernel) (ac (i_op sim_div (iv 6) ii) a0)) (iv 1))))))))
theorem d11 (T : Tab P w K mg base ct n call) (hr : Room n (A.deeper (envOfC "_law_some" (defScope st11) s.heap.objs.size f cdv))) (gd : A.guards = some []) (hS : FnScope N11 P11 (defScope st11) := sc11) :
    PSs (bodyX P w K mg base N11 "_law_some" (defScope st11) f cdv A outer s H E) (defBody st11) (tS ⟨K, ct⟩ NX (b11 call)) := by
  unfold b11
  exact (s_one (s_ret (i_ix (iv 1) (cCall (T.o10) hr gd (ac (iv 0) (ac (i_callB c_len (by rfl) T.b_len (by decide +kernel) (ac (iv 1) a0)) a0))))))
theorem d12 (T : Tab P w K mg base ct n call) (hr : Room n (A.deeper (envOfC "_law_alike" (defScope st12) s.heap.objs.size f cdv))) (gd : A.guards = some []) (hS : FnScope N12 P12 (defScope st12) := sc12) :
    PSs (bodyX P w K mg base N12 "_law_alike" (defScope st12) f cdv A outer s H E) (defBody st12) (tS ⟨K, ct⟩ NX (b12 call)) := by
  unfold b12
  exact (s_one (s_ret (i_and (i_cmp (sim_eq (hu64 hr)) (iv 0) (iv 1) (by rfl)) (i_one (i_cmp (sim_eq (hu64 hr)) (i_callB (c_repr gd (hu65 hr)) (by rfl) T.b_repr (by decide +kernel) (ac (iv 0) a0)) (i_callB (c_repr gd (hu65 hr)) (by rfl) T.b_repr (by decide +kernel) (ac (iv 1) a0)) (by rfl))))))
theorem d13 (T : Tab P w K mg base ct n call) (hr : Room n (A.deeper (envOfC "_law_barred" (defScope st13) s.heap.objs.size f cdv))) (gd : A.guards = some []) (hS : FnScope N13 P13 (defScope st13) := sc13) :
    PSs (bodyX P w K mg base N13 "_law_barred" (defScope st13) f cdv A outer s H E) (defBody st13) (tS ⟨K, ct⟩ NX (b13 call)) := by
  unfold b13
  exact (s_cons (s_set 0 hS.nd (i_lst (ac is (ac is (ac is (ac is (ac is (ac is (ac is (ac is (ac is (ac is (ac is (ac is (ac is (ac is a0)))))))))))))))) (s_one (s_ret (i_op sim_add (iv 0) (i_lst (ac is (ac is (ac is (ac is (ac is (ac is (ac is a0))))))))))))
theorem d14 (T : Tab P w K mg base ct n call) (hr : Room n (A.deeper (envOfC "_law_small_signs" (defScope st14) s.heap.objs.size f cdv))) (gd : A.guards = some []) (hS : FnScope N14 P14 (defScope st14) := sc14) :
    PSs (bodyX P w K mg base N14 "_law_small_signs" (defScope st14) f cdv A outer s H E) (defBody st14) (tS ⟨K, ct⟩ NX (b14 call)) := by
  unfold b14
  exact (s_one (s_ret is))
theorem d15 (T : Tab P w K mg base ct n call) (hr : Room n (A.deeper (envOfC "_law_great_signs" (defScope st15) s.heap.objs.size f cdv))) (gd : A.guards = some []) (hS : FnScope N15 P15 (defScope st15) := sc15) :
    PSs (bodyX P w K mg base N15 "_law_great_signs" (defScope st15) f cdv A outer s H E) (defBody st15) (tS ⟨K, ct⟩ NX (b15 call)) := by
  unfold b15
  exact (s_one (s_ret is))
theorem d16 (T : Tab P w K mg base ct n call) (hr : Room n (A.deeper (envOfC "_law_figures" (defScope st16) s.heap.objs.size f cdv))) (gd : A.guards = some []) (hS : FnScope N16 P16 (defScope st16) := sc16) :
    PSs (bodyX P w K mg base N16 "_law_figures" (defScope st16) f cdv A outer s H E) (defBody st16) (tS ⟨K, ct⟩ NX (b16 call)) := by
  unfold b16
  exact (s_one (s_ret is))
theorem d17 (T : Tab P w K mg base ct n call) (hr : Room n (A.deeper (envOfC "_law_odd" (defScope st17) s.heap.objs.size f cdv))) (gd : A.guards = some []) (hS : FnScope N17 P17 (defScope st17) := sc17) :
    PSs (bodyX P w K mg base N17 "_law_odd" (defScope st17) f cdv A outer s H E) (defBody st17) (tS ⟨K, ct⟩ NX (b17 call)) := by
  unfold b17
  exact (s_cons (s_set 1 hS.nd (i_lst (ac inn (ac ib (ac ib (ac ii (ac ii (ac (i_neg ii) (ac (i_op sim_pow ii ii) (ac is (ac is (ac is (ac is (ac is (ac is (ac is (ac (i_tup a0) (ac (i_lst a0) (ac i_dct0 (ac (i_tup (ac ii a0)) (ac (i_lst (ac ii a0)) a0))))))))))))))))))))) (s_cons (s_set 1 hS.nd (i_op sim_add (iv 1) (i_lst (ac (i_tup (ac is a0)) (ac (i_tup (ac is (ac ii a0))) (ac (i_tup (ac is (ac ib a0))) (ac (i_tup (ac is (ac ii a0))) (ac (i_tup (ac is a0)) (ac (i_lst (ac is a0)) (ac (i_tup (ac is (ac ii a0))) (ac (i_tup (ac is (ac (i_neg ii) a0))) a0))))))))))) (s_cons (s_set 1 hS.nd (i_op sim_add (iv 1) (i_lst (ac (i_tup (ac is (ac (i_tup (ac (i_tup (ac is (ac ii a0))) a0)) a0))) (ac (i_tup (ac is (ac is a0))) (ac (i_tup (ac is (ac is a0))) (ac (i_tup (ac is (ac is a0))) (ac (i_tup (ac is (ac is (ac (i_tup a0) a0)))) a0)))))))) (s_cons (s_set 1 hS.nd (i_op sim_add (iv 1) (i_lst (ac (i_tup (ac is (ac (i_tup a0) a0))) (ac (i_tup (ac is (ac ii a0))) (ac (i_tup (ac is (ac is (ac inn a0)))) (ac (i_tup (ac is (ac (i_tup a0) (ac (i_tup (ac is (ac ii a0))) a0)))) (ac (i_tup (ac is (ac is (ac ii (ac ii a0))))) a0)))))))) (s_one (s_ret (cCall (T.o11) hr gd (ac (iv 0) (ac (i_op sim_add (iv 1) (i_lst (ac i_dct1 (ac (i_tup (ac (i_tup a0) a0)) a0)))) a0)))))))))
theorem d18 (T : Tab P w K mg base ct n call) (hr : Room n (A.deeper (envOfC "_law_scanned" (defScope st18) s.heap.objs.size f cdv))) (gd : A.guards = some []) (hS : FnScope N18 P18 (defScope st18) := sc18) :
    PSs (bodyX P w K mg base N18 "_law_scanned" (defScope st18) f cdv A outer s H E) (defBody st18) (tS ⟨K, ct⟩ NX (b18 call)) := by
  unfold b18
  exact (s_cons (s_asg (i_tup (ac (i_live a0) (ac ii (ac ii (ac ii a0))))) (g_tup rfl (gs_cons (g_name 1 hS.nd ) (gs_cons (g_name 2 hS.nd ) (gs_cons (g_name 3 hS.nd ) (gs_cons (g_name 4 hS.nd ) gs_nil)))))) (s_cons (s_while 1000000 PassesOwn.never (t_cmp sim_lt (iv 4) (i_callB c_len (by rfl) T.b_len (by decide +kernel) (ac (iv 0) a0)) (by rfl)) (s_cons (s_set 5 hS.nd (i_ix (iv 0) (iv 4))) (s_cons (s_if (t_cmp (sim_eq (hu64 hr)) (iv 5) is (by rfl)) (s_cons (s_par3 2 3 4 rfl hS.nd (by decide) (by decide) (by decide) (ac (i_op sim_add (iv 2) ii) (ac ii (ac (i_op sim_add (iv 4) ii) a0)))) (s_one s_cnt)) s_nil) (s_cons (s_if (t_cmp (sim_eq (hu64 hr)) (iv 5) is (by rfl)) (s_cons (s_while 1000000 PassesOwn.never ((w_and (t_cmp sim_lt (iv 4) (i_callB c_len (by rfl) T.b_len (by decide +kernel) (ac (iv 0) a0)) (by rfl)) (w_and1 (t_cmp (sim_ne (hu64 hr)) (i_ix (iv 0) (iv 4)) is (by rfl))))).pt (s_one (s_par 4 3 rfl hS.nd (by decide) (ac (i_op sim_add (iv 4) ii) (ac (i_op sim_add (iv 3) ii) a0))))) (s_one s_cnt)) s_nil) (s_cons (s_if (t_cmp (sim_eq (hu64 hr)) (iv 5) is (by rfl)) (s_cons (s_par 4 3 rfl hS.nd (by decide) (ac (i_op sim_add (iv 4) ii) (ac (i_op sim_add (iv 3) ii) a0))) (s_one s_cnt)) s_nil) (s_cons (s_asg (cCall (T.o20) hr gd (ac (iv 0) (ac (iv 4) a0))) (g_tup rfl (gs_cons (g_name 6 hS.nd ) (gs_cons (g_name 7 hS.nd ) gs_nil)))) (s_cons (s_if (t_cmp sim_notN (iv 7) inn (by rfl)) (s_one (s_ret (i_tup (ac is (ac (iv 2) (ac (i_op sim_add (iv 3) (iv 7)) a0)))))) s_nil) (s_cons (s_expr (i_meth PySem.F.slot_list_append PySem.F.type_list_append m_append (iv 1) (ac (i_tup (ac (iv 6) (ac (iv 2) (ac (iv 3) a0)))) a0))) (s_one (s_par 4 3 rfl hS.nd (by decide) (ac (i_op sim_add (iv 4) (i_callB c_len (by rfl) T.b_len (by decide +kernel) (ac (iv 6) a0))) (ac (i_op sim_add (iv 3) (i_callB c_len (by rfl) T.b_len (by decide +kernel) (ac (iv 6) a0))) a0)))))))))))) (s_one (s_ret (i_tup (ac is (ac (iv 1) a0)))))))
theorem d19 (T : Tab P w K mg base ct n call) (hr : Room n (A.deeper (envOfC "_law_run_from" (defScope st19) s.heap.objs.size f cdv))) (gd : A.guards = some []) (hS : FnScope N19 P19 (defScope st19) := sc19) :
    PSs (bodyX P w K mg base N19 "_law_run_from" (defScope st19) f cdv A outer s H E) (defBody st19) (tS ⟨K, ct⟩ NX (b19 call)) := by
  unfold b19
  exact (s_cons (s_set 3 hS.nd (iv 1)) (s_cons (s_while 1000000 PassesOwn.never ((w_and (t_cmp sim_lt (iv 3) (i_callB c_len (by rfl) T.b_len (by decide +kernel) (ac (iv 0) a0)) (by rfl)) (w_and1 (t_cmp sim_inA (i_ix (iv 0) (iv 3)) (iv 2) (by rfl))))).pt (s_one (s_aug 3 hS.nd sim_iaddI ii))) (s_one (s_ret (i_slA (iv 0) (o_some (iv 1)) (o_some (iv 3)))))))
theorem d20 (T : Tab P w K mg base ct n call) (hr : Room n (A.deeper (envOfC "_law_word_at" (defScope st20) s.heap.objs.size f cdv))) (gd : A.guards = some []) (hS : FnScope N20 P20 (defScope st20) := sc20) :
    PSs (bodyX P w K mg base N20 "_law_word_at" (defScope st20) f cdv A outer s H E) (defBody st20) (tS ⟨K, ct⟩ NX (b20 call)) := by
  unfold b20
  exact (s_cons (s_set 2 hS.nd (i_op sim_add (cCall0 (T.o14) hr gd) (cCall0 (T.o15) hr gd))) (s_cons (s_set 3 hS.nd (i_op sim_add (i_op sim_add (iv 2) (cCall0 (T.o16) hr gd)) is)) (s_cons (s_if (t_cmp sim_inA (i_ix (iv 0) (iv 1)) (iv 2) (by rfl)) (s_cons (s_set 4 hS.nd (cCall (T.o19) hr gd (ac (iv 0) (ac (iv 1) (ac (iv 3) a0))))) (s_cons (s_if (t_cmp sim_gt (i_callB c_len (by rfl) T.b_len (by decide +kernel) (ac (iv 4) a0)) ii (by rfl)) (s_one (s_ret (i_tup (ac inn (ac ii a0))))) s_nil) (s_cons (s_set 5 hS.nd (i_op sim_add (iv 1) (i_callB c_len (by rfl) T.b_len (by decide +kernel) (ac (iv 4) a0)))) (s_cons (s_if ((w_and (t_cmp sim_inA (i_ix (iv 0) (iv 1)) (cCall0 (T.o15) hr gd) (by rfl)) (w_and (t_cmp (sim_eq (hu64 hr)) (i_slA (iv 0) (o_some (iv 5)) (o_some (i_op sim_add (iv 5) ii))) is (by rfl)) (w_and1 (t_cmp sim_inA (i_slA (iv 0) (o_some (i_op sim_add (iv 5) ii)) (o_some (i_op sim_add (iv 5) ii))) (i_callT c_tupleA (by rfl) T.b_tuple (by decide +kernel) (ac (iv 2) a0)) (by rfl)))))).pt (s_cons (s_set 6 hS.nd (cCall (T.o19) hr gd (ac (iv 0) (ac (i_op sim_add (iv 5) ii) (ac (iv 3) a0))))) (s_cons (s_if ((w_or (t_cmp sim_gt (i_callB c_len (by rfl) T.b_len (by decide +kernel) (ac (iv 6) a0)) ii (by rfl)) (w_or1 (t_cmp sim_inA (iv 6) (cCall0 (T.o13) hr gd) (by rfl))))).pt (s_one (s_ret (i_tup (ac inn (ac (i_op sim_add (i_callB c_len (by rfl) T.b_len (by decide +kernel) (ac (iv 4) a0)) ii) a0))))) s_nil) (s_one (s_ret (i_tup (ac (i_op sim_add (i_op sim_add (iv 4) is) (iv 6)) (ac inn a0))))))) s_nil) (s_one (s_ret (i_tup (ac (iv 4) (ac inn a0))))))))) s_nil) (s_cons (s_if ((w_or (t_cmp sim_inA (i_ix (iv 0) (iv 1)) is (by rfl)) (w_or1 (t_cmp sim_inA (i_ix (iv 0) (iv 1)) (cCall0 (T.o16) hr gd) (by rfl))))).pt (s_cons (s_set 7 hS.nd (i_ife (t_cmp sim_inA (i_ix (iv 0) (iv 1)) is (by rfl)) (i_ix (iv 0) (iv 1)) is)) (s_cons (s_set 8 hS.nd (cCall (T.o19) hr gd (ac (iv 0) (ac (i_op sim_add (iv 1) (i_callB c_len (by rfl) T.b_len (by decide +kernel) (ac (iv 7) a0))) (ac (cCall0 (T.o16) hr gd) a0))))) (s_cons (s_if ((w_or (t_cmp (sim_eq (hu64 hr)) (iv 8) is (by rfl)) (w_or ((w_and (t_cmp sim_gt (i_callB c_len (by rfl) T.b_len (by decide +kernel) (ac (iv 8) a0)) ii (by rfl)) (w_and1 (t_cmp (sim_eq (hu64 hr)) (i_ix (iv 8) ii) is (by rfl))))).pt (w_or1 ((w_and (t_cmp (sim_eq (hu64 hr)) (iv 7) is (by rfl)) (w_and1 (t_cmp (sim_eq (hu64 hr)) (iv 8) is (by rfl))))).pt)))).pt (s_one (s_ret (i_tup (ac inn (ac ii a0))))) s_nil) (s_cons (s_if (t_cmp (sim_eq (hu64 hr)) (iv 7) is (by rfl)) (s_one (s_ret (i_ife (t_cmp sim_gt (i_callB c_len (by rfl) T.b_len (by decide +kernel) (ac (iv 8) a0)) ii (by rfl)) (i_tup (ac inn (ac ii a0))) (i_tup (ac (i_op sim_add is (iv 8)) (ac inn a0)))))) s_nil) (s_cons (s_set 9 hS.nd (i_ife (t_cmp sim_lt (i_callB c_len (by rfl) T.b_len (by decide +kernel) (ac (iv 8) a0)) ii (by rfl)) (i_callT c_intA (by rfl) T.b_int (by decide +kernel) (ac (iv 8) a0)) (i_op sim_pow ii ii))) (s_one (s_ret (i_ife (t_cmp sim_le (iv 9) (i_op sim_add ii (i_callT c_intA (by rfl) T.b_int (by decide +kernel) (ac (i_cmp (sim_eq (hu64 hr)) (iv 7) is (by rfl)) a0))) (by rfl)) (i_tup (ac (i_op sim_add (iv 7) (iv 8)) (ac inn a0))) (i_tup (ac inn (ac ii a0))))))))))) s_nil) (s_cons (s_if (t_cmp (sim_eq (hu64 hr)) (i_slA (iv 0) (o_some (iv 1)) (o_some (i_op sim_add (iv 1) ii))) is (by rfl)) (s_one (s_ret (i_tup (ac is (ac inn a0))))) s_nil) (s_one (s_ret (i_ife (t_cmp sim_inA (i_ix (iv 0) (iv 1)) is (by rfl)) (i_tup (ac (i_ix (iv 0) (iv 1)) (ac inn a0))) (i_tup (ac inn (ac ii a0)))))))))))
theorem d21 (T : Tab P w K mg base ct n call) (hr : Room n (A.deeper (envOfC "_law_heard" (defScope st21) s.heap.objs.size f cdv))) (gd : A.guards = some []) (hS : FnScope N21 P21 (defScope st21) := sc21) :
    PSs (bodyX P w K mg base N21 "_law_heard" (defScope st21) f cdv A outer s H E) (defBody st21) (tS ⟨K, ct⟩ NX (b21 call)) := by
  unfold b21
  exact (s_one (try_E takes_none (fun _ _ _ _ h => h) (fun W pn xe tk pw => (s_one (s_ret (i_tup (ac is (ac (cCallEL (CX := L2.CX _ _) (T.o8) (L2.passAt tk) hr gd (ac (iv 0) a0)) a0)))))) (h_named T.t_NoText hS.nd (xa_const rfl (fun _ _ _ => pe_str) (xa_fld T.f_NoText_line (xa_fld T.f_NoText_column xa_nil))) (h_named T.t_Wrong hS.nd (xa_const rfl (fun _ _ _ => pe_str) (xa_fld T.f_Wrong_place xa_nil)) (h_plain T.t_SwornError (xa_const rfl (fun _ _ _ => pe_str) xa_nil) h_nil)))))
theorem d22 (T : Tab P w K mg base ct n call) (hr : Room n (A.deeper (envOfC "_law_near_word" (defScope st22) s.heap.objs.size f cdv))) (gd : A.guards = some []) (hS : FnScope N22 P22 (defScope st22) := sc22) :
    PSs (bodyX P w K mg base N22 "_law_near_word" (defScope st22) f cdv A outer s H E) (defBody st22) (tS ⟨K, ct⟩ NX (b22 call)) := by
  unfold b22
  exact (s_cons (s_set 1 hS.nd (i_lst (ac is (ac is (ac is (ac is (ac is (ac is (ac is (ac is (ac is (ac is (ac is (ac is (ac is (ac is (ac is (ac is (ac is a0))))))))))))))))))) (s_cons (s_set 1 hS.nd (i_op sim_add (iv 1) (i_lst (ac is (ac is (ac is (ac is (ac is (ac is (ac is (ac is (ac is (ac is (ac is (ac is (ac is a0)))))))))))))))) (s_cons (s_set 2 hS.nd (i_live (ac is (ac is (ac is (ac is (ac is (ac is (ac is (ac is (ac (i_op sim_mulA is ii) (ac (i_op sim_mulA is ii) (ac (i_op sim_add (i_op sim_mulA is ii) is) a0))))))))))))) (s_cons (s_set 2 hS.nd (i_op sim_addL (iv 2) (i_lst (ac (i_op sim_add is (i_op sim_mulA is ii)) (ac is (ac is (ac is (ac is (ac is (ac is (ac is (ac is (ac is (ac is (ac is a0))))))))))))))) (s_cons (s_expr (i_meth PySem.F.slot_list_append PySem.F.type_list_append m_append (iv 2) (ac (i_op sim_add (i_op sim_add (i_op sim_mulA is ii) is) (i_op sim_mulA is ii)) a0))) (s_cons (s_set 1 hS.nd (i_op sim_add (iv 1) (i_lc (own := [("turn", 3)]) rfl hS.nd (w_range1 (by rfl) T.b_range (ac ii a0)) (blk_of (by kernel_rfl)) (fun _ _ _ _ _ => (gb_name 3 hS.nd rfl (by decide))) (fun _ _ _ _ _ => ts_nil) (fun _ _ _ _ _ => (i_op sim_add (cCall (T.o11) hr gd (ac (iv 0) (ac (i_lst (ac is (ac is a0))) a0))) (cCall (T.o11) hr gd (ac (iv 0) (ac (cCall0 (T.o13) hr gd) a0)))))))) (s_one (s_ret (cCall (T.o11) hr gd (ac (iv 0) (ac (i_ife (t_cmp (sim_eq (hu64 hr)) (cCall (T.o10) hr gd (ac (iv 0) (ac ii a0))) ii (by rfl)) (iv 2) (iv 1)) a0)))))))))))
theorem d23 (T : Tab P w K mg base ct n call) (h2 : 2 ≤ n) (hr : Room n (A.deeper (envOfC "law" (defScope st23) s.heap.objs.size f cdv))) (gd : A.guards = some []) (hS : FnScope N23 P23 (defScope st23) := sc23) :
    PSs (bodyX P w K mg base N23 "law" (defScope st23) f cdv A outer s H E) (defBody st23) (tS ⟨K, ct⟩ NX (b23 call)) := by
  unfold b23
  exact (s_cons (s_set 1 hS.nd (cCallL (T.o9) hr gd (ac (iv 0) a0))) (s_cons (s_for PassesOwn.never rfl (w_range1 (by rfl) T.b_range (ac ii a0)) (g_name 2 hS.nd ) (s_cons (s_set 3 hS.nd (cCall (T.o11) hr gd (ac (iv 1) (ac (i_lst (ac is (ac is (ac is (ac is a0))))) a0)))) (s_cons (s_for PassesOwn.never rfl (w_range1 (by rfl) T.b_range (ac (cCall (T.o11) hr gd (ac (iv 1) (ac (i_lst (ac ii (ac ii (ac ii (ac ii a0))))) a0))) a0)) (g_name 4 hS.nd ) (s_cons (s_set 5 hS.nd (cCall (T.o11) hr gd (ac (iv 1) (ac (i_lst (ac is (ac is (ac is (ac is (ac is (ac is (ac is (ac is a0))))))))) a0)))) (s_one (s_set 3 hS.nd (i_op sim_add (i_op sim_add (iv 3) (cCall (T.o22) hr gd (ac (iv 1) a0))) (iv 5)))))) (s_cons (s_set 3 hS.nd (i_op sim_add (iv 3) (cCall (T.o11) hr gd (ac (iv 1) (ac (i_lst (ac is (ac is (ac is (ac is a0))))) a0))))) (s_cons (s_set 6 hS.nd (cCall (T.o18) hr gd (ac (iv 3) a0))) (s_one (s_for PassesOwn.never rfl (w_range1 (by rfl) T.b_range (ac ii a0)) (g_name 7 hS.nd ) (s_cons (s_set 8 hS.nd (cCallL (T.o21) hr gd (ac (iv 3) a0))) (s_cons (s_if (t_not (t_tru (cCall (T.o12) hr gd (ac (iv 8) (ac (iv 6) a0))))) (s_one (s_ret ib)) s_nil) (s_one (s_if (t_cmp (sim_eq (hu64 hr)) (i_ix (iv 8) ii) is (by rfl)) (s_cons (s_expr (i_meth PySem.F.slot_list_append PySem.F.type_list_append m_append (i_ix (iv 8) ii) (ac inn a0))) (s_one (s_set 6 hS.nd (cCall (T.o18) hr gd (ac (iv 3) a0))))) s_nil))))))))))) (s_cons (s_set 9 hS.nd (cCall (T.o11) hr gd (ac (iv 1) (ac (i_lst (ac (cCall (T.o17) hr gd (ac (iv 1) a0)) (ac (cCall (T.o17) hr gd (ac (iv 1) a0)) (ac (i_own0 T.w_Nothing (room_two h2 hr)) a0)))) a0)))) (s_one (s_ret (i_or (i_isiA "str" (by decide) (by rfl) T.b_isinstance (by rfl) T.b_str (by decide +kernel) (iv 9)) (i_one (cCall (T.o12) hr gd (ac (cCall (T.o21) hr gd (ac (iv 9) a0)) (ac (i_tup (ac is (ac ii a0))) a0))))))))))
end
/-! all of them -/
structure Facts (P : Program) (w : World) (K : PySem.W.Frag) (mg : Str → Option Value) (ct : Nat → Option Addr) : Prop where
  r_NoText : ∀ base, KRaise P w K mg base ct 1 "NoText" ["line", "column"]
  r_Wrong : ∀ base, KRaise P w K mg base ct 3 "Wrong" ["place"]
  t_NoText : KTake K mg ct subC 1 "NoText"
  t_SwornError : KTake K mg ct subC 0 "SwornError"
  t_Wrong : KTake K mg ct subC 3 "Wrong"
  f_NoText_column : KField K ct subC 1 "column"
  f_NoText_line : KField K ct subC 1 "line"
  f_Wrong_place : KField K ct subC 3 "place"
  w_Nothing : ∀ base, KMake P w K mg base "Nothing"
  a0 : DefAt K mg "run_end" st0
  a1 : DefAt K mg "name_end" st1
  a2 : DefAt K mg "word_end" st2
  a3 : DefAt K mg "are_plain_digits" st3
  a4 : DefAt K mg "is_number_word" st4
  a5 : DefAt K mg "number_told" st5
  a6 : DefAt K mg "name_fault" st6
  a7 : DefAt K mg "fault_in" st7
  a8 : DefAt K mg "words_of" st8
  a9 : DefAt K mg "_law_bag" st9
  a10 : DefAt K mg "_law_take" st10
  a11 : DefAt K mg "_law_some" st11
  a12 : DefAt K mg "_law_alike" st12
  a13 : DefAt K mg "_law_barred" st13
  a14 : DefAt K mg "_law_small_signs" st14
  a15 : DefAt K mg "_law_great_signs" st15
  a16 : DefAt K mg "_law_figures" st16
  a17 : DefAt K mg "_law_odd" st17
  a18 : DefAt K mg "_law_scanned" st18
  a19 : DefAt K mg "_law_run_from" st19
  a20 : DefAt K mg "_law_word_at" st20
  a21 : DefAt K mg "_law_heard" st21
  a22 : DefAt K mg "_law_near_word" st22
  a23 : DefAt K mg "law" st23
  c_BARRED : KCon K mg "BARRED" k_BARRED
  c_DIGITS : KCon K mg "DIGITS" k_DIGITS
  c_GREATEST_NUMBER : KCon K mg "GREATEST_NUMBER" k_GREATEST_NUMBER
  c_GREAT_LETTERS : KCon K mg "GREAT_LETTERS" k_GREAT_LETTERS
  c_LEAST_NUMBER : KCon K mg "LEAST_NUMBER" k_LEAST_NUMBER
  c_LETTERS : KCon K mg "LETTERS" k_LETTERS
  c_LONGEST_NAME : KCon K mg "LONGEST_NAME" k_LONGEST_NAME
  c_LONGEST_NUMBER : KCon K mg "LONGEST_NUMBER" k_LONGEST_NUMBER
  c_MOST_DIGITS : KCon K mg "MOST_DIGITS" k_MOST_DIGITS
  c_NAME_SIGNS : KCon K mg "NAME_SIGNS" k_NAME_SIGNS
  c_WORD_SIGNS : KCon K mg "WORD_SIGNS" k_WORD_SIGNS
  b_abs : mg "abs" = none
  b_int : mg "int" = none
  b_isinstance : mg "isinstance" = none
  b_len : mg "len" = none
  b_range : mg "range" = none
  b_repr : mg "repr" = none
  b_str : mg "str" = none
  b_tuple : mg "tuple" = none
theorem bn0 : Bnd "run_end" st0 P0 := fun _ _ _ _ _ _ us hl => match us, hl with | [_, _, _], _ => rfl
theorem bn1 : Bnd "name_end" st1 P1 := fun _ _ _ _ _ _ us hl => match us, hl with | [_, _], _ => rfl
theorem bn2 : Bnd "word_end" st2 P2 := fun _ _ _ _ _ _ us hl => match us, hl with | [_, _], _ => rfl
theorem bn3 : Bnd "are_plain_digits" st3 P3 := fun _ _ _ _ _ _ us hl => match us, hl with | [_], _ => rfl
theorem bn4 : Bnd "is_number_word" st4 P4 := fun _ _ _ _ _ _ us hl => match us, hl with | [_], _ => rfl
theorem bn5 : Bnd "number_told" st5 P5 := fun _ _ _ _ _ _ us hl => match us, hl with | [_], _ => rfl
theorem bn6 : Bnd "name_fault" st6 P6 := fun _ _ _ _ _ _ us hl => match us, hl with | [_], _ => rfl
theorem bn7 : Bnd "fault_in" st7 P7 := fun _ _ _ _ _ _ us hl => match us, hl with | [_], _ => rfl
theorem bn8 : Bnd "words_of" st8 P8 := fun _ _ _ _ _ _ us hl => match us, hl with | [_], _ => rfl
theorem bn9 : Bnd "_law_bag" st9 P9 := fun _ _ _ _ _ _ us hl => match us, hl with | [_], _ => rfl
theorem bn10 : Bnd "_law_take" st10 P10 := fun _ _ _ _ _ _ us hl => match us, hl with | [_, _], _ => rfl
theorem bn11 : Bnd "_law_some" st11 P11 := fun _ _ _ _ _ _ us hl => match us, hl with | [_, _], _ => rfl
theorem bn12 : Bnd "_law_alike" st12 P12 := fun _ _ _ _ _ _ us hl => match us, hl with | [_, _], _ => rfl
theorem bn13 : Bnd "_law_barred" st13 P13 := fun _ _ _ _ _ _ us hl => match us, hl with | [], _ => rfl
theorem bn14 : Bnd "_law_small_signs" st14 P14 := fun _ _ _ _ _ _ us hl => match us, hl with | [], _ => rfl
theorem bn15 : Bnd "_law_great_signs" st15 P15 := fun _ _ _ _ _ _ us hl => match us, hl with | [], _ => rfl
theorem bn16 : Bnd "_law_figures" st16 P16 := fun _ _ _ _ _ _ us hl => match us, hl with | [], _ => rfl
theorem bn17 : Bnd "_law_odd" st17 P17 := fun _ _ _ _ _ _ us hl => match us, hl with | [_], _ => rfl
theorem bn18 : Bnd "_law_scanned" st18 P18 := fun _ _ _ _ _ _ us hl => match us, hl with | [_], _ => rfl
theorem bn19 : Bnd "_law_run_from" st19 P19 := fun _ _ _ _ _ _ us hl => match us, hl with | [_, _, _], _ => rfl
theorem bn20 : Bnd "_law_word_at" st20 P20 := fun _ _ _ _ _ _ us hl => match us, hl with | [_, _], _ => rfl
theorem bn21 : Bnd "_law_heard" st21 P21 := fun _ _ _ _ _ _ us hl => match us, hl with | [_], _ => rfl
theorem bn22 : Bnd "_law_near_word" st22 P22 := fun _ _ _ _ _ _ us hl => match us, hl with | [_], _ => rfl
theorem bn23 : Bnd "law" st23 P23 := fun _ _ _ _ _ _ us hl => match us, hl with | [_], _ => rfl
theorem tab_all {P : Program} {w : World} {K : PySem.W.Frag} {mg : Str → Option Value} {base : Heap} {ct : Nat → Option Addr} (F : Facts P w K mg ct) : ∀ n, Tab P w K mg base ct n (callN n)
  | 0 => ⟨callee_zero F.a0 bn0 fun _ _ => rfl, callee_zero F.a1 bn1 fun _ _ => rfl, callee_zero F.a2 bn2 fun _ _ => rfl, callee_zero F.a3 bn3 fun _ _ => rfl, callee_zero F.a4 bn4 fun _ _ => rfl, callee_zero F.a5 bn5 fun _ _ => rfl, callee_zero F.a6 bn6 fun _ _ => rfl, callee_zero F.a7 bn7 fun _ _ => rfl, calleeX_zero F.a8 bn8 fun _ _ => rfl, callee_zero F.a9 bn9 fun _ _ => rfl, callee_zero F.a10 bn10 fun _ _ => rfl, callee_zero F.a11 bn11 fun _ _ => rfl, callee_zero F.a12 bn12 fun _ _ => rfl, callee_zero F.a13 bn13 fun _ _ => rfl, callee_zero F.a14 bn14 fun _ _ => rfl, callee_zero F.a15 bn15 fun _ _ => rfl, callee_zero F.a16 bn16 fun _ _ => rfl, callee_zero F.a17 bn17 fun _ _ => rfl, callee_zero F.a18 bn18 fun _ _ => rfl, callee_zero F.a19 bn19 fun _ _ => rfl, callee_zero F.a20 bn20 fun _ _ => rfl, callee_zero F.a21 bn21 fun _ _ => rfl, callee_zero F.a22 bn22 fun _ _ => rfl, callee_zero F.a23 bn23 fun _ _ => rfl, F.r_NoText _, F.r_Wrong _, F.t_NoText, F.t_SwornError, F.t_Wrong, F.f_NoText_column, F.f_NoText_line, F.f_Wrong_place, F.w_Nothing _, F.c_BARRED, F.c_DIGITS, F.c_GREATEST_NUMBER, F.c_GREAT_LETTERS, F.c_LEAST_NUMBER, F.c_LETTERS, F.c_LONGEST_NAME, F.c_LONGEST_NUMBER, F.c_MOST_DIGITS, F.c_NAME_SIGNS, F.c_WORD_SIGNS, F.b_abs, F.b_int, F.b_isinstance, F.b_len, F.b_range, F.b_repr, F.b_str, F.b_tuple⟩
  | n + 1 =>
    have T : Tab P w K mg base ct n (callN n) := tab_all F n
    ⟨callee_succ F.a0 bn0 sc0 (fun _ _ => rfl) fun _ _ _ _ _ _ _ r gd => d0 T r gd, callee_succ F.a1 bn1 sc1 (fun _ _ => rfl) fun _ _ _ _ _ _ _ r gd => d1 T r gd, callee_succ F.a2 bn2 sc2 (fun _ _ => rfl) fun _ _ _ _ _ _ _ r gd => d2 T r gd, callee_succ F.a3 bn3 sc3 (fun _ _ => rfl) fun _ _ _ _ _ _ _ r gd => d3 T r gd, callee_succ F.a4 bn4 sc4 (fun _ _ => rfl) fun _ _ _ _ _ _ _ r gd => d4 T r gd, callee_succ F.a5 bn5 sc5 (fun _ _ => rfl) fun _ _ _ _ _ _ _ r gd => d5 T r gd, callee_succ F.a6 bn6 sc6 (fun _ _ => rfl) fun _ _ _ _ _ _ _ r gd => d6 T r gd, callee_succ F.a7 bn7 sc7 (fun _ _ => rfl) fun _ _ _ _ _ _ _ r gd => d7 T r gd, calleeX_succ F.a8 bn8 sc8 (fun _ _ => rfl) fun _ _ _ _ _ _ _ h2 r gd => d8 T h2 r gd, callee_succ F.a9 bn9 sc9 (fun _ _ => rfl) fun _ _ _ _ _ _ _ r gd => d9 T r gd, callee_succ F.a10 bn10 sc10 (fun _ _ => rfl) fun _ _ _ _ _ _ _ r gd => d10 T r gd, callee_succ F.a11 bn11 sc11 (fun _ _ => rfl) fun _ _ _ _ _ _ _ r gd => d11 T r gd, callee_succ F.a12 bn12 sc12 (fun _ _ => rfl) fun _ _ _ _ _ _ _ r gd => d12 T r gd, callee_succ F.a13 bn13 sc13 (fun _ _ => rfl) fun _ _ _ _ _ _ _ r gd => d13 T r gd, callee_succ F.a14 bn14 sc14 (fun _ _ => rfl) fun _ _ _ _ _ _ _ r gd => d14 T r gd, callee_succ F.a15 bn15 sc15 (fun _ _ => rfl) fun _ _ _ _ _ _ _ r gd => d15 T r gd, callee_succ F.a16 bn16 sc16 (fun _ _ => rfl) fun _ _ _ _ _ _ _ r gd => d16 T r gd, callee_succ F.a17 bn17 sc17 (fun _ _ => rfl) fun _ _ _ _ _ _ _ r gd => d17 T r gd, callee_succ F.a18 bn18 sc18 (fun _ _ => rfl) fun _ _ _ _ _ _ _ r gd => d18 T r gd, callee_succ F.a19 bn19 sc19 (fun _ _ => rfl) fun _ _ _ _ _ _ _ r gd => d19 T r gd, callee_succ F.a20 bn20 sc20 (fun _ _ => rfl) fun _ _ _ _ _ _ _ r gd => d20 T r gd, callee_succ F.a21 bn21 sc21 (fun _ _ => rfl) fun _ _ _ _ _ _ _ r gd => d21 T r gd, callee_succ F.a22 bn22 sc22 (fun _ _ => rfl) fun _ _ _ _ _ _ _ r gd => d22 T r gd, callee2_succ F.a23 bn23 sc23 (fun _ _ => rfl) fun h2 _ _ _ _ _ _ _ r gd => d23 T h2 r gd, F.r_NoText _, F.r_Wrong _, F.t_NoText, F.t_SwornError, F.t_Wrong, F.f_NoText_column, F.f_NoText_line, F.f_Wrong_place, F.w_Nothing _, F.c_BARRED, F.c_DIGITS, F.c_GREATEST_NUMBER, F.c_GREAT_LETTERS, F.c_LEAST_NUMBER, F.c_LETTERS, F.c_LONGEST_NAME, F.c_LONGEST_NUMBER, F.c_MOST_DIGITS, F.c_NAME_SIGNS, F.c_WORD_SIGNS, F.b_abs, F.b_int, F.b_isinstance, F.b_len, F.b_range, F.b_repr, F.b_str, F.b_tuple⟩
end VI
set_option Elab.async false
set_option linter.all false
set_option maxRecDepth 100000
namespace VI
open PySem PySem.Spec PyProof.Rows L2

/-! evaluating: texts and numbers -/
abbrev tx (a : List Nat) : Str := ⟨a.toArray⟩
abbrev st (a : List Nat) : W := .d (.str (tx a))
abbrev nt (n : Nat) : W := .d (.int (n : Int))
abbrev bt (b : Bool) : W := .d (.bool b)
theorem R_ok {α β : Type} {a : α} {S : Store} {k : α → Store → R β} : (R.ok a S).bind k = k a S := rfl
theorem toS_ok {α : Type} {a : α} {S : Store} {ρ : Rho} {k : α → Store → RF} : toS ρ (R.ok a S) k = k a S := rfl
theorem lift_some {w : W} {S : Store} : lift (some (w, S)) = .ok w S := rfl
theorem boolW_ok {b : Bool} {S : Store} : boolW (.d (.bool b)) S = .ok b S := rfl
theorem truR_b {b : Bool} {S : Store} : truR (.d (.bool b)) S = .ok b S := rfl
theorem len_tx (a : List Nat) : (tx a).length = a.length := by simp [Str.length]
section
variable {S : Store} {a b : List Nat} {i j c : Nat}
theorem g_ix (h : a[i]? = some c) (hl : a.length ≤ lim) : gIx (st a) (nt i) S = some (st [c], S) := by
  have hi : i < a.length := (List.getElem?_eq_some_iff.mp h).1
  show (if (tx a).length ≤ lim then (atI (tx a).cps.toList (i : Int)).map fun c => (W.d (.str ⟨#[c]⟩), S) else none) = _
  rw [len_tx, if_pos hl]
  show ((atI a (i : Int)).map fun c => (W.d (.str ⟨#[c]⟩), S)) = _
  rw [atI_in (by omega) (by omega), Int.toNat_natCast, h]
  rfl
theorem g_in : gInA (st [c]) (st b) S = some (bt (decide (c ∈ b)), S) := by
  have e2 := SX.in_one b c
  show some (bt (!(Builtin.Str.occurrences (tx b) (tx [c]) 0 (tx b).length 1).isEmpty), S) = _
  rw [e2]
theorem g_len (hl : a.length ≤ lim) : gLen [st a] S = some (nt a.length, S) := by
  show (if (tx a).length ≤ lim then some (W.d (.int ((tx a).length : Int)), S) else none) = _
  rw [len_tx, if_pos hl]
theorem g_lt : gLt (nt i) (nt j) S = some (bt (decide (i < j)), S) := by
  show some (bt (decide ((i : Int) < (j : Int))), S) = _
  congr 3
  simp only [Int.ofNat_lt]
theorem g_gt : gGt (nt i) (nt j) S = some (bt (decide (j < i)), S) := by
  show some (bt (decide ((j : Int) < (i : Int))), S) = _
  congr 3
  simp only [Int.ofNat_lt]
theorem g_le : gLe (nt i) (nt j) S = some (bt (decide (i ≤ j)), S) := by
  show some (bt (decide ((i : Int) ≤ (j : Int))), S) = _
  congr 3
  simp only [Int.ofNat_le]
theorem g_add : gAdd (nt i) (nt j) S = some (nt (i + j), S) := rfl
theorem g_inc : gI2 (fun _ _ => true) (fun i j => PyData.int (i + j)) (nt i) (nt j) S = some (nt (i + j), S) := rfl
theorem g_inc1 : gI2 (fun _ _ => true) (fun i j => PyData.int (i + j)) (nt i) (.d (.int 1)) S = some (nt (i + 1), S) := rfl
theorem g_add1 : gAdd (nt i) (.d (.int 1)) S = some (nt (i + 1), S) := rfl
theorem g_add2 : gAdd (nt i) (.d (.int 2)) S = some (nt (i + 2), S) := rfl
theorem g_cat (hl : a.length + b.length ≤ lim) : gAdd (st a) (st b) S = some (st (a ++ b), S) := by
  show (if (tx a).length + (tx b).length ≤ lim then some (W.d (.str (tx a ++ tx b)), S) else none) = _
  rw [len_tx, len_tx, if_pos hl]
  have e : tx a ++ tx b = tx (a ++ b) := SX.S_cat a b
  rw [e]
/-- signs that there are -/
def okc (a : List Nat) : Bool := a.all (· < 1114112)
theorem strOk_tx (h : okc a = true) : PyData.strOk (tx a) = true := by
  unfold PyData.strOk
  rw [← Array.all_toList]
  exact h
theorem shaped_tx (h : okc a = true) : SeqAt.shaped (.str (tx a)) = true := by
  unfold SeqAt.shaped
  have e : PyData.canLay0 (.str (tx a)) = true := strOk_tx h
  rw [e]
  rfl
theorem eqv_tx : PyData.eqv (.str (tx a)) (.str (tx b)) = decide (a = b) := by
  show (tx a == tx b) = _
  exact SX.S_beq_eq
theorem g_eqs (ha : okc a = true) (hb : okc b = true) : gEq (st a) (st b) S = some (bt (decide (a = b)), S) := by
  show some (bt (tx a == tx b), S) = _
  have e : (tx a == tx b) = decide (a = b) := SX.S_beq_eq
  rw [e]
theorem g_nes (ha : okc a = true) (hb : okc b = true) : gNe (st a) (st b) S = some (bt (!decide (a = b)), S) := by
  show some (bt (!(tx a == tx b)), S) = _
  have e : (tx a == tx b) = decide (a = b) := SX.S_beq_eq
  rw [e]
theorem cut_tx {lo hi : Option Int} : cutS (tx a) lo hi = tx ((a.drop (HT.sIx a.length 0 lo)).take (HT.sIx a.length a.length hi - HT.sIx a.length 0 lo)) := by
  unfold cutS
  rw [len_tx]
theorem take_min (l : List Nat) (i j : Nat) : (l.drop (min i l.length)).take (min j l.length - min i l.length) = (l.drop i).take (j - i) := by
  by_cases h : i ≤ l.length
  · rw [Nat.min_eq_left h]
    by_cases h2 : j ≤ l.length
    · rw [Nat.min_eq_left h2]
    · rw [Nat.min_eq_right (a := j) (by omega)]
      rw [List.take_of_length_le (i := l.length - i) (by rw [List.length_drop]; omega), List.take_of_length_le (by rw [List.length_drop]; omega)]
  · rw [List.drop_of_length_le (i := i) (by omega), Nat.min_eq_right (a := i) (by omega), List.drop_of_length_le (Nat.le_refl _), List.take_nil, List.take_nil]
theorem g_sl (hl : a.length ≤ lim) : gSlA (st a) (some (i : Int)) (some (j : Int)) S = some (st ((a.drop i).take (j - i)), S) := by
  show (if (tx a).length ≤ lim then some (W.d (.str (cutS (tx a) (some (i : Int)) (some (j : Int)))), S) else none) = _
  rw [len_tx, if_pos hl, cut_tx, HT.sIx_nat, HT.sIx_nat, take_min]
theorem g_sl1 (hl : a.length ≤ lim) : gSlA (st a) (some (i : Int)) (some ((i + 1 : Nat) : Int)) S = some (st ((a.drop i).take 1), S) := by
  rw [g_sl hl, Nat.add_sub_cancel_left]
theorem g_sl2 (hl : a.length ≤ lim) : gSlA (st a) (some (i : Int)) (some ((i + 2 : Nat) : Int)) S = some (st ((a.drop i).take 2), S) := by
  rw [g_sl hl, Nat.add_sub_cancel_left]
theorem g_sf (hl : a.length ≤ lim) : gSlA (st a) (some (i : Int)) none S = some (st (a.drop i), S) := by
  show (if (tx a).length ≤ lim then some (W.d (.str (cutS (tx a) (some (i : Int)) none)), S) else none) = _
  rw [len_tx, if_pos hl, cut_tx, HT.sIx_nat, HT.sIx_none]
  by_cases h : i ≤ a.length
  · rw [Nat.min_eq_left h, List.take_of_length_le (by rw [List.length_drop]; omega)]
  · rw [Nat.min_eq_right (by omega), List.drop_of_length_le (Nat.le_refl _), List.take_nil, List.drop_of_length_le (by omega)]
end
/-- a call that hands back pure data -/
theorem ev_cd {n : Nat} {g : List W → Store → R W} {fa : FA} {ρ : Rho} {S S1 S2 : Store} {ws : List W} {x : PyData} (ea : fa ρ S = .ok ws S1) (eg : g ws S1 = .ok (.d x) S2) (hn : ws.length = n := by rfl) : fCall n g fa ρ S = .ok (.d x) (S2.take S1.length) := by
  unfold fCall
  rw [ea]
  show (if ws.length = n then frz S1.length (g ws S1) else R.bad) = _
  rw [if_pos hn, eg]
  rfl
/-- .. and leaves the store -/
theorem fcall_same {n : Nat} {g : List W → Store → R W} {ws : List W} {S : Store} {x : PyData} (eg : g ws S = .ok (.d x) S) (hn : ws.length = n) : (if ws.length = n then frz S.length (g ws S) else R.bad) = .ok (.d x) S := by
  rw [if_pos hn, eg]
  show R.ok _ (S.take S.length) = _
  rw [List.take_length]
theorem while_step {c : FT} {b : FS} {n : Nat} {ρ : Rho} {S : Store} : whileL c b (n + 1) ρ S = toS ρ (c ρ S) fun k S1 => if k = true then (match b ρ S1 with
    | .next ρ2 S2 => whileL c b n ρ2 S2
    | .cnt ρ2 S2 => whileL c b n ρ2 S2
    | .brk ρ2 S2 => .next ρ2 S2
    | r => r) else .next ρ S1 := rfl
end VI
set_option Elab.async false
namespace P6
/-! codes -/
def low : List Nat := [97,98,99,100,101,102,103,104,105,106,107,108,109,110,111,112,113,114,115,116,117,118,119,120,121,122]
def great : List Nat := [65,66,67,68,69,70,71,72,73,74,75,76,77,78,79,80,81,82,83,84,85,86,87,88,89,90]
def figs : List Nat := [48,49,50,51,52,53,54,55,56,57]
def lets : List Nat := low ++ great
def nams : List Nat := low ++ (great ++ (figs ++ [95]))
def sigs : List Nat := [45,61,60,43,42,40,41,123,125,44,46,124,58,95]
def isL (c : Nat) : Bool := decide (c ∈ lets)
def isU (c : Nat) : Bool := decide (c ∈ great)
def isF (c : Nat) : Bool := decide (c ∈ figs)
def isN (c : Nat) : Bool := decide (c ∈ nams)
def isS (c : Nat) : Bool := decide (c ∈ sigs)
theorem low_iff {c : Nat} : c ∈ low ↔ 97 ≤ c ∧ c ≤ 122 := by unfold low; simp only [List.mem_cons, List.not_mem_nil, or_false]; omega
theorem great_iff {c : Nat} : c ∈ great ↔ 65 ≤ c ∧ c ≤ 90 := by unfold great; simp only [List.mem_cons, List.not_mem_nil, or_false]; omega
theorem figs_iff {c : Nat} : c ∈ figs ↔ 48 ≤ c ∧ c ≤ 57 := by unfold figs; simp only [List.mem_cons, List.not_mem_nil, or_false]; omega
theorem isL_iff {c : Nat} : isL c = true ↔ (97 ≤ c ∧ c ≤ 122) ∨ (65 ≤ c ∧ c ≤ 90) := by
  unfold isL lets; rw [decide_eq_true_iff, List.mem_append, low_iff, great_iff]
theorem isU_iff {c : Nat} : isU c = true ↔ 65 ≤ c ∧ c ≤ 90 := by unfold isU; rw [decide_eq_true_iff, great_iff]
theorem isF_iff {c : Nat} : isF c = true ↔ 48 ≤ c ∧ c ≤ 57 := by unfold isF; rw [decide_eq_true_iff, figs_iff]
theorem isN_iff {c : Nat} : isN c = true ↔ (97 ≤ c ∧ c ≤ 122) ∨ (65 ≤ c ∧ c ≤ 90) ∨ (48 ≤ c ∧ c ≤ 57) ∨ c = 95 := by
  unfold isN nams; rw [decide_eq_true_iff, List.mem_append, List.mem_append, List.mem_append, low_iff, great_iff, figs_iff, List.mem_singleton]

def val (f : List Nat) : Nat := f.foldl (fun a c => a * 10 + (c - 48)) 0

/-! the word at the head, by the law -/
def second (cs : List Nat) (n : Nat) : Bool := (match cs[n]? with | some c => c == 46 | none => false) && (match cs[n + 1]? with | some d => isL d | none => false)
def lWord (barred : List (List Nat)) (cs : List Nat) : Option (List Nat) × Nat := match cs with
  | [] => (none, 0)
  | c :: t =>
    if isL c then
      if 20 < ((c :: t).takeWhile isN).length then (none, 0)
      else if isU c && second (c :: t) ((c :: t).takeWhile isN).length then
        if 20 < (((c :: t).drop (((c :: t).takeWhile isN).length + 1)).takeWhile isN).length ∨ (((c :: t).drop (((c :: t).takeWhile isN).length + 1)).takeWhile isN) ∈ barred then (none, ((c :: t).takeWhile isN).length + 1)
        else (some ((c :: t).takeWhile isN ++ 46 :: (((c :: t).drop (((c :: t).takeWhile isN).length + 1)).takeWhile isN)), 0)
      else (some ((c :: t).takeWhile isN), 0)
    else if c = 126 ∨ c = 63 then
      if t.takeWhile isF = [] ∨ (1 < (t.takeWhile isF).length ∧ (t.takeWhile isF).head? = some 48) ∨ (c = 126 ∧ t.takeWhile isF = [48]) then (none, 0)
      else if c = 63 then if 9 < (t.takeWhile isF).length then (none, 0) else (some (63 :: t.takeWhile isF), 0)
      else if (if (t.takeWhile isF).length < 12 then val (t.takeWhile isF) else 1000000000000) ≤ 2147483648 then (some (126 :: t.takeWhile isF), 0) else (none, 0)
    else if isF c then
      if 1 < ((c :: t).takeWhile isF).length ∧ c = 48 then (none, 0)
      else if (if ((c :: t).takeWhile isF).length < 12 then val ((c :: t).takeWhile isF) else 1000000000000) ≤ 2147483647 then (some ((c :: t).takeWhile isF), 0) else (none, 0)
    else if (c :: t).take 2 = [45, 62] then (some [45, 62], 0)
    else if isS c then (some [c], 0) else (none, 0)

/-! the word at the head, by the program -/
def pEnd (cs : List Nat) : Nat := match cs with
  | [] => 0
  | c :: t =>
    if isL c then
      if isU c && second (c :: t) ((c :: t).takeWhile isN).length then ((c :: t).takeWhile isN).length + 1 + (((c :: t).drop (((c :: t).takeWhile isN).length + 1)).takeWhile isN).length
      else ((c :: t).takeWhile isN).length
    else if isF c then ((c :: t).takeWhile isF).length
    else if c = 126 ∨ c = 63 then if 0 < (t.takeWhile isF).length then (t.takeWhile isF).length + 1 else 0
    else if (c :: t).take 2 = [45, 62] then 2
    else if isS c then 1 else 0
def plainD (f : List Nat) : Bool := f == [48] || f.head? != some 48
/-- the parts of a name -/
def parts (w : List Nat) : List (List Nat) := if 46 ∈ w then [w.takeWhile (· != 46), (w.dropWhile (· != 46)).drop 1] else [w]
def nameFault (barred : List (List Nat)) : List (List Nat) → Nat → Option Nat
  | [], _ => none
  | s :: r, k => if 20 < s.length ∨ (0 < k ∧ s ∈ barred) then some k else nameFault barred r (k + s.length + 1)
def numW (w : List Nat) : Bool := match w with
  | [] => false
  | c :: t => if c = 126 then plainD t && decide (t.length ≤ 10) && decide (t ≠ [48]) && decide (val t ≤ 2147483648)
    else plainD (c :: t) && decide ((c :: t).length ≤ 10) && decide (val (c :: t) ≤ 2147483647)
def pFault (barred : List (List Nat)) (w : List Nat) : Option Nat := match w with
  | [] => some 0
  | c :: t =>
    if isL c then nameFault barred (parts (c :: t)) 0
    else if c = 63 then if t.length ≤ 9 ∧ plainD t = true then none else some 0
    else if c = 126 ∨ isF c = true then if numW (c :: t) then none else some 0
    else none

theorem takeWhile_all {p : Nat → Bool} : ∀ {l : List Nat}, (∀ c ∈ l, p c = true) → l.takeWhile p = l
  | [], _ => rfl
  | c :: l, h => by rw [List.takeWhile_cons, if_pos (h c (by simp)), takeWhile_all fun d m => h d (by simp [m])]
theorem mem_takeWhile {p : Nat → Bool} : ∀ {l : List Nat} {c : Nat}, c ∈ l.takeWhile p → p c = true
  | [], c, h => by simp at h
  | d :: l, c, h => by
    rw [List.takeWhile_cons] at h
    split at h
    · rcases List.mem_cons.mp h with rfl | h
      · assumption
      · exact mem_takeWhile h
    · simp at h
theorem take_run {p : Nat → Bool} : ∀ l : List Nat, l.take (l.takeWhile p).length = l.takeWhile p
  | [] => rfl
  | c :: l => by
    rw [List.takeWhile_cons]
    split
    · rw [List.length_cons, List.take_succ_cons, take_run l]
    · rfl
theorem no46 {l : List Nat} (h : ∀ c ∈ l, isN c = true) : 46 ∉ l := fun m => by
  have := isN_iff.mp (h 46 m)
  omega
theorem val_ge : ∀ (f : List Nat) (a : Nat), a * 10 ^ f.length ≤ f.foldl (fun a c => a * 10 + (c - 48)) a
  | [], a => by simp
  | c :: f, a => by
    have h := val_ge f (a * 10 + (c - 48))
    rw [List.foldl_cons, List.length_cons, Nat.pow_succ]
    refine Nat.le_trans ?_ h
    have : a * (10 ^ f.length * 10) = (a * 10) * 10 ^ f.length := by rw [Nat.mul_comm (10 ^ f.length) 10, Nat.mul_assoc]
    rw [this]
    exact Nat.mul_le_mul_right _ (by omega)
theorem val_long {f : List Nat} (hf : ∀ c ∈ f, isF c = true) (h : f.head? ≠ some 48) (hl : 10 < f.length) : 2147483648 < val f := by
  cases f with
  | nil => simp at hl
  | cons c f =>
    have hc := isF_iff.mp (hf c (by simp))
    have hc2 : c ≠ 48 := fun e => h (by rw [e]; rfl)
    have h2 := val_ge f (0 * 10 + (c - 48))
    have h3 : 10 ^ 10 ≤ 10 ^ f.length := Nat.pow_le_pow_right (by decide) (by rw [List.length_cons] at hl; omega)
    show _ < f.foldl _ (0 * 10 + (c - 48))
    have h4 : 1 * 10 ^ f.length ≤ (0 * 10 + (c - 48)) * 10 ^ f.length := Nat.mul_le_mul_right _ (by omega)
    omega
theorem takeWhile_46 {w o : List Nat} (h : ∀ c ∈ w, isN c = true) : (w ++ 46 :: o).takeWhile (· != 46) = w := by
  induction w with
  | nil => rfl
  | cons c w ih =>
    rw [List.cons_append, List.takeWhile_cons, if_pos, ih fun d m => h d (by simp [m])]
    have := no46 h
    simp only [List.mem_cons, not_or] at this
    simpa using Ne.symm this.1
theorem dropWhile_46 {w o : List Nat} (h : ∀ c ∈ w, isN c = true) : (w ++ 46 :: o).dropWhile (· != 46) = 46 :: o := by
  induction w with
  | nil => rfl
  | cons c w ih =>
    rw [List.cons_append, List.dropWhile_cons, if_pos, ih fun d m => h d (by simp [m])]
    have := no46 h
    simp only [List.mem_cons, not_or] at this
    simpa using Ne.symm this.1
theorem second_split {cs : List Nat} {n : Nat} (h : second cs n = true) : cs.drop n = 46 :: cs.drop (n + 1) ∧ (cs.drop (n + 1)).takeWhile isN ≠ [] := by
  unfold second at h
  rw [Bool.and_eq_true] at h
  obtain ⟨h1, h2⟩ := h
  cases e1 : cs[n]? with
  | none => rw [e1] at h1; simp at h1
  | some c =>
    rw [e1] at h1
    cases e2 : cs[n + 1]? with
    | none => rw [e2] at h2; simp at h2
    | some d =>
      rw [e2] at h2
      obtain ⟨l1, q1⟩ := List.getElem?_eq_some_iff.mp e1
      obtain ⟨l2, q2⟩ := List.getElem?_eq_some_iff.mp e2
      refine ⟨?_, ?_⟩
      · rw [List.drop_eq_getElem_cons l1, q1]
        simp at h1
        rw [h1]
      · rw [List.drop_eq_getElem_cons l2, q2, List.takeWhile_cons, if_pos]
        · simp
        · rw [isN_iff]
          rcases isL_iff.mp h2 with z | z
          · exact .inl z
          · exact .inr (.inl z)
theorem fault_one {barred : List (List Nat)} {w : List Nat} : nameFault barred [w] 0 = if 20 < w.length then some 0 else none := by
  simp [nameFault]
theorem fault_two {barred : List (List Nat)} {w o : List Nat} : nameFault barred [w, o] 0 = if 20 < w.length then some 0 else if 20 < o.length ∨ o ∈ barred then some (w.length + 1) else none := by
  simp [nameFault]
theorem pf63 {barred : List (List Nat)} {f : List Nat} : pFault barred (63 :: f) = if f.length ≤ 9 ∧ plainD f = true then none else some 0 := by
  simp [pFault, show isL 63 = false by decide]
theorem pf126 {barred : List (List Nat)} {f : List Nat} : pFault barred (126 :: f) = if numW (126 :: f) = true then none else some 0 := by
  simp [pFault, show isL 126 = false by decide]
theorem pfF {barred : List (List Nat)} {c : Nat} {f : List Nat} (hL : isL c = false) (h : c ≠ 63) (hF : isF c = true) : pFault barred (c :: f) = if numW (c :: f) = true then none else some 0 := by
  simp [pFault, hL, h, hF]
theorem pf_plain {f : List Nat} (hn : f ≠ []) : plainD f = true ↔ ¬ (1 < f.length ∧ f.head? = some 48) := by
  unfold plainD
  rw [Bool.or_eq_true, beq_iff_eq, bne_iff_ne]
  constructor
  · rintro (z | z)
    · rw [z]; simp
    · exact fun y => z y.2
  · intro z
    by_cases y : f.head? = some 48
    · refine .inl ?_
      cases f with
      | nil => exact absurd rfl hn
      | cons a f =>
        simp at y
        subst y
        cases f with
        | nil => rfl
        | cons b f => simp at z
    · exact .inr y
/-- the same of both -/
theorem agree (barred : List (List Nat)) {c : Nat} {t : List Nat} :
    lWord barred (c :: t) = (match pFault barred ((c :: t).take (pEnd (c :: t))) with | some k => (none, k) | none => (some ((c :: t).take (pEnd (c :: t))), 0)) := by
  unfold lWord pEnd
  by_cases hL : isL c = true
  · simp only [hL, if_true]
    have hN : isN c = true := by
      rw [isN_iff]
      rcases isL_iff.mp hL with z | z
      · exact .inl z
      · exact .inr (.inl z)
    generalize ew : (c :: t).takeWhile isN = w
    have hw : ∀ d ∈ w, isN d = true := fun d m => mem_takeWhile (ew ▸ m)
    have hw1 : w = c :: t.takeWhile isN := by rw [← ew, List.takeWhile_cons, if_pos hN]
    have tk : (c :: t).take w.length = w := by rw [← ew]; exact take_run _
    by_cases hs : (isU c && second (c :: t) w.length) = true
    · simp only [hs, if_true]
      obtain ⟨s1, s2⟩ := second_split (Bool.and_eq_true_iff.mp hs).2
      generalize eo : ((c :: t).drop (w.length + 1)).takeWhile isN = o at s2 ⊢
      have ho : ∀ d ∈ o, isN d = true := fun d m => mem_takeWhile (eo ▸ m)
      have tk2 : (c :: t).take (w.length + 1 + o.length) = w ++ 46 :: o := by
        rw [Nat.add_assoc, List.take_add, tk, s1, Nat.add_comm 1, List.take_succ_cons]
        rw [show ((c :: t).drop (w.length + 1)).take o.length = o by rw [← eo]; exact take_run _]
      rw [tk2]
      have pf : pFault barred (w ++ 46 :: o) = nameFault barred [w, o] 0 := by
        rw [hw1, List.cons_append]
        unfold pFault
        simp only [hL, if_true]
        rw [← List.cons_append, ← hw1]
        unfold parts
        rw [if_pos (by simp), takeWhile_46 hw, dropWhile_46 hw]
        rfl
      rw [pf, fault_two]
      by_cases h1 : 20 < w.length
      · rw [if_pos h1, if_pos h1]
      · rw [if_neg h1, if_neg h1]
        by_cases h2 : 20 < o.length ∨ o ∈ barred
        · rw [if_pos h2, if_pos h2]
        · rw [if_neg h2, if_neg h2]
    · rw [Bool.not_eq_true] at hs
      simp only [hs, Bool.false_eq_true, if_false]
      rw [tk]
      have pf : pFault barred w = nameFault barred [w] 0 := by
        rw [hw1]
        unfold pFault
        simp only [hL, if_true]
        rw [← hw1]
        unfold parts
        rw [if_neg (no46 hw)]
      rw [pf, fault_one]
      by_cases h1 : 20 < w.length
      · rw [if_pos h1, if_pos h1]
      · rw [if_neg h1, if_neg h1]
  · rw [Bool.not_eq_true] at hL
    simp only [hL, Bool.false_eq_true, if_false]
    by_cases hq : c = 126 ∨ c = 63
    · have hF : ¬ isF c = true := fun z => by have := isF_iff.mp z; omega
      simp only [hq, if_true]
      rw [if_neg hF]
      generalize ef : t.takeWhile isF = f
      have hf : ∀ d ∈ f, isF d = true := fun d m => mem_takeWhile (ef ▸ m)
      by_cases hn : f = []
      · rw [if_pos (.inl hn), hn]
        rfl
      · have hp : 0 < f.length := List.length_pos_iff.mpr hn
        rw [if_pos hp]
        have tk : (c :: t).take (f.length + 1) = c :: f := by rw [List.take_succ_cons, ← ef, take_run]
        rw [tk]
        have hF2 : isF 126 = false := by decide
        have pl := pf_plain hn
        by_cases h63 : c = 63
        · subst h63
          rw [pf63]
          by_cases hb : 1 < f.length ∧ f.head? = some 48
          · rw [if_pos (.inr (.inl hb)), if_neg (fun z => pl.mp z.2 hb)]
          · rw [if_neg (by
              rintro (z | z | z)
              · exact hn z
              · exact hb z
              · omega), if_pos rfl]
            by_cases h9 : 9 < f.length
            · rw [if_pos h9, if_neg (fun z => by omega)]
            · rw [if_neg h9, if_pos ⟨by omega, pl.mpr hb⟩]
        · have h126 : c = 126 := by omega
          subst h126
          rw [pf126]
          unfold numW
          by_cases hb : 1 < f.length ∧ f.head? = some 48
          · rw [if_pos (.inr (.inl hb))]
            have : plainD f = false := by
              cases e : plainD f with
              | false => rfl
              | true => exact absurd hb (pl.mp e)
            simp [this]
          · by_cases h0 : f = [48]
            · rw [if_pos (.inr (.inr ⟨rfl, h0⟩)), h0]
              rfl
            · rw [if_neg (by
                rintro (z | z | z)
                · exact hn z
                · exact hb z
                · exact h0 z.2), if_neg h63]
              have hh : f.head? ≠ some 48 := fun y => by
                cases f with
                | nil => simp at hn
                | cons a f =>
                  simp at y
                  subst y
                  cases f with
                  | nil => exact h0 rfl
                  | cons b f => exact hb (by simp)
              by_cases h10 : 10 < f.length
              · have v := val_long hf hh h10
                rw [if_neg (by split <;> omega)]
                simp [show ¬ f.length ≤ 10 by omega]
              · rw [if_pos (show f.length < 12 by omega)]
                by_cases hv : val f ≤ 2147483648
                · simp [hv, h0, pl.mpr hb, show f.length ≤ 10 by omega]
                · simp [hv]
    · rw [if_neg hq]
      by_cases hF : isF c = true
      · simp only [hF, if_true]
        have ew : (c :: t).takeWhile isF = c :: t.takeWhile isF := by rw [List.takeWhile_cons, if_pos hF]
        have tk : (c :: t).take ((c :: t).takeWhile isF).length = (c :: t).takeWhile isF := take_run _
        rw [tk, ew]
        generalize ef : t.takeWhile isF = f
        have hf : ∀ d ∈ c :: f, isF d = true := fun d m => mem_takeWhile (p := isF) (l := c :: t) (by rw [ew, ef]; exact m)
        rw [pfF hL (by omega) hF]
        unfold numW
        simp only [show ¬ c = 126 by omega, if_false]
        have pl := pf_plain (f := c :: f) (by simp)
        simp only [List.head?_cons, Option.some.injEq] at pl
        by_cases hb : 1 < (c :: f).length ∧ c = 48
        · rw [if_pos hb]
          have : plainD (c :: f) = false := by
            cases e : plainD (c :: f) with
            | false => rfl
            | true => exact absurd hb (pl.mp e)
          simp [this]
        · rw [if_neg hb]
          by_cases h10 : 10 < (c :: f).length
          · have v := val_long hf (by
              intro y
              simp only [List.head?_cons, Option.some.injEq] at y
              exact hb ⟨by omega, y⟩) h10
            rw [if_neg (by split <;> omega)]
            simp only [decide_eq_false (show ¬ (c :: f).length ≤ 10 by omega), Bool.and_false, Bool.false_and, Bool.false_eq_true, if_false]
          · rw [if_pos (show (c :: f).length < 12 by omega)]
            by_cases hv : val (c :: f) ≤ 2147483647
            · simp only [hv, pl.mpr hb, decide_eq_true (show (c :: f).length ≤ 10 by omega), if_true, decide_true, Bool.and_true]
            · simp only [hv, if_false, decide_false, Bool.and_false, Bool.false_eq_true]
      · rw [Bool.not_eq_true] at hF
        simp only [hF, Bool.false_eq_true, if_false, hq]
        have lastly : ∀ w : List Nat, ((c :: w)[0]? = some c) → pFault barred (c :: w) = none := fun w _ => by
          simp [pFault, hL, hF, show ¬ c = 63 by omega, show ¬ c = 126 by omega]
        by_cases ha : (c :: t).take 2 = [45, 62]
        · rw [if_pos ha, if_pos ha, ha]
          have hc : c = 45 := by
            cases t with
            | nil => simp at ha
            | cons d t => simp at ha; exact ha.1
          subst hc
          rw [lastly [62] rfl]
        · rw [if_neg ha, if_neg ha]
          by_cases hS : isS c = true
          · rw [if_pos hS, if_pos hS]
            show _ = (match pFault barred [c] with | some k => _ | none => _)
            rw [lastly [] rfl]
            rfl
          · rw [if_neg hS, if_neg hS]
            rfl
end P6
set_option Elab.async false
namespace P6
abbrev Tok := List Nat × Nat × Nat
inductive Out where
  | told (l : List Tok)
  | text (line col : Nat)
def scan (barred : List (List Nat)) (found : List Tok) (cs : List Nat) (line col : Nat) : Out := match cs with
  | [] => .told found
  | c :: t =>
    if c = 10 then scan barred found t (line + 1) 0
    else if c = 35 then scan barred found (t.dropWhile (· != 10)) line (col + 1 + (t.takeWhile (· != 10)).length)
    else if c = 32 then scan barred found t line (col + 1)
    else match lWord barred (c :: t) with
      | (none, k) => .text line (col + k)
      | (some w, _) => scan barred (found ++ [(w, line, col)]) (t.drop (w.length - 1)) line (col + w.length)
termination_by cs.length
decreasing_by
  · simp
  · have : (t.dropWhile (· != 10)).length ≤ t.length := by
      have h := congrArg List.length (List.takeWhile_append_dropWhile (p := (· != 10)) (l := t))
      rw [List.length_append] at h
      omega
    simp only [List.length_cons]; omega
  · simp
  · simp only [List.length_cons, List.length_drop]; omega
def rowScan (barred : List (List Nat)) (found : List Tok) (r : List Nat) (line col : Nat) : Out := match r with
  | [] => .told found
  | c :: t =>
    if c = 35 then .told found
    else if c = 32 then rowScan barred found t line (col + 1)
    else match pFault barred ((c :: t).take (pEnd (c :: t))) with
      | some k => .text line (col + k)
      | none => rowScan barred (found ++ [((c :: t).take (pEnd (c :: t)), line, col)]) (t.drop (pEnd (c :: t) - 1)) line (col + pEnd (c :: t))
termination_by r.length
decreasing_by
  · simp
  · simp only [List.length_cons, List.length_drop]; omega
def rowsScan (barred : List (List Nat)) : List Tok → List (List Nat) → Nat → Out
  | found, [], _ => .told found
  | found, r :: rs, line => match rowScan barred found r line 0 with
    | .told f => rowsScan barred f rs (line + 1)
    | .text a b => .text a b
/-- what stands behind a row -/
def Z (z : List Nat) : Prop := z = [] ∨ ∃ z', z = 10 :: z'
theorem tw_Z {p : Nat → Bool} (hp : p 10 = false) {z : List Nat} (hz : Z z) : ∀ r : List Nat, (r ++ z).takeWhile p = r.takeWhile p
  | [] => by
    rcases hz with rfl | ⟨z', rfl⟩
    · rfl
    · rw [List.nil_append, List.takeWhile_cons, hp]; rfl
  | c :: r => by rw [List.cons_append, List.takeWhile_cons, List.takeWhile_cons, tw_Z hp hz r]
theorem second_Z {z : List Nat} (hz : Z z) (r : List Nat) (n : Nat) (hn : n ≤ r.length) : second (r ++ z) n = second r n := by
  have at_ : ∀ {q : Nat → Bool}, q 10 = false → ∀ m, m ≤ r.length → (match (r ++ z)[m]? with | some c => q c | none => false) = (match r[m]? with | some c => q c | none => false) := fun {q} hq m hm => by
    by_cases h : m < r.length
    · rw [List.getElem?_append_left h]
    · have e : m = r.length := by omega
      subst e
      rw [List.getElem?_append_right (Nat.le_refl _), Nat.sub_self, List.getElem?_eq_none (Nat.le_refl _)]
      rcases hz with rfl | ⟨z', rfl⟩
      · rfl
      · simpa using hq
  unfold second
  by_cases h : n + 1 ≤ r.length
  · exact congr (congrArg and (at_ (q := fun c => c == 46) (by decide) n hn)) (at_ (q := isL) (by decide) (n + 1) h)
  · have e1 := at_ (q := fun c => c == 46) (by decide) n hn
    rw [List.getElem?_eq_none (l := r) (i := n) (by omega)] at e1 ⊢
    exact (congrArg (fun b => b && _) e1).trans rfl
theorem second_lt {r : List Nat} {n : Nat} (h : second r n = true) : n + 1 < r.length := by
  unfold second at h
  rw [Bool.and_eq_true] at h
  have h2 := h.2
  cases e : r[n + 1]? with
  | none => rw [e] at h2; cases h2
  | some d => exact (List.getElem?_eq_some_iff.mp e).1
theorem lWord_Z (barred : List (List Nat)) {z : List Nat} (hz : Z z) (c : Nat) (t : List Nat) : lWord barred (c :: t ++ z) = lWord barred (c :: t) := by
  show lWord barred (c :: (t ++ z)) = _
  unfold lWord
  have tN : (c :: (t ++ z)).takeWhile isN = (c :: t).takeWhile isN := tw_Z (by decide) hz (c :: t)
  have tF : (c :: (t ++ z)).takeWhile isF = (c :: t).takeWhile isF := tw_Z (by decide) hz (c :: t)
  have tF2 : (t ++ z).takeWhile isF = t.takeWhile isF := tw_Z (by decide) hz t
  have ln : ((c :: t).takeWhile isN).length ≤ (c :: t).length := (List.takeWhile_prefix isN).length_le
  have sc : second (c :: (t ++ z)) ((c :: t).takeWhile isN).length = second (c :: t) ((c :: t).takeWhile isN).length := second_Z hz (c :: t) _ ln
  have t2 : ((c :: (t ++ z)).take 2 = [45, 62]) ↔ ((c :: t).take 2 = [45, 62]) := by
    cases t with
    | nil =>
      rcases hz with rfl | ⟨z', rfl⟩
      · exact Iff.rfl
      · simp
    | cons d t => simp
  simp only [tN, tF, tF2, sc]
  by_cases hs : second (c :: t) ((c :: t).takeWhile isN).length = true
  · have dr : ((c :: (t ++ z)).drop (((c :: t).takeWhile isN).length + 1)).takeWhile isN = ((c :: t).drop (((c :: t).takeWhile isN).length + 1)).takeWhile isN := by
      have e : c :: (t ++ z) = (c :: t) ++ z := rfl
      rw [e, List.drop_append_of_le_length (Nat.le_of_lt (second_lt hs)), tw_Z (by decide) hz]
    simp only [dr, t2]
  · rw [Bool.not_eq_true] at hs
    simp only [hs, Bool.and_false, Bool.false_eq_true, if_false, t2]
theorem drop_Z {z : List Nat} {t : List Nat} {n : Nat} (h : n ≤ t.length) : (t ++ z).drop n = t.drop n ++ z := List.drop_append_of_le_length h
theorem pEnd_le (cs : List Nat) : pEnd cs ≤ cs.length := by
  cases cs with
  | nil => exact Nat.le_refl _
  | cons c t =>
    show (if isL c = true then _ else _) ≤ _
    have lN : ((c :: t).takeWhile isN).length ≤ (c :: t).length := (List.takeWhile_prefix isN).length_le
    have lF : ((c :: t).takeWhile isF).length ≤ (c :: t).length := (List.takeWhile_prefix isF).length_le
    have lF2 : (t.takeWhile isF).length ≤ t.length := (List.takeWhile_prefix isF).length_le
    split
    · split
      · rename_i h
        have h2 := second_lt (Bool.and_eq_true_iff.mp h).2
        have h3 : (((c :: t).drop (((c :: t).takeWhile isN).length + 1)).takeWhile isN).length ≤ ((c :: t).drop (((c :: t).takeWhile isN).length + 1)).length := (List.takeWhile_prefix isN).length_le
        rw [List.length_drop] at h3
        omega
      · exact lN
    · split
      · exact lF
      · split
        · split
          · rw [List.length_cons]; omega
          · exact Nat.zero_le _
        · split
          · rename_i h
            have := congrArg List.length h
            rw [List.length_take] at this
            simp only [List.length_cons, List.length_nil] at this ⊢
            omega
          · split
            · rw [List.length_cons]; omega
            · exact Nat.zero_le _
theorem dw_Z {z : List Nat} (hz : Z z) : ∀ t : List Nat, 10 ∉ t → (t ++ z).dropWhile (· != 10) = z
  | [], _ => by
    rcases hz with rfl | ⟨z', rfl⟩
    · rfl
    · rfl
  | c :: t, h => by
    simp only [List.mem_cons, not_or] at h
    rw [List.cons_append, List.dropWhile_cons, if_pos (by simpa using Ne.symm h.1), dw_Z hz t h.2]
/-- what is behind a row -/
def behind (barred : List (List Nat)) (z : List Nat) (line : Nat) : Out → Out
  | .text a b => .text a b
  | .told f => match z with
    | [] => .told f
    | _ :: z' => scan barred f z' (line + 1) 0
theorem scan_Z (barred : List (List Nat)) {z : List Nat} (hz : Z z) (found : List Tok) (line col : Nat) : scan barred found z line col = behind barred z line (.told found) := by
  rcases hz with rfl | ⟨z', rfl⟩
  · rw [scan]; rfl
  · rw [scan, if_pos rfl]; rfl
theorem scan_row (barred : List (List Nat)) {z : List Nat} (hz : Z z) (line : Nat) : ∀ (n : Nat) (r : List Nat), r.length ≤ n → 10 ∉ r → ∀ (found : List Tok) (col : Nat), scan barred found (r ++ z) line col = behind barred z line (rowScan barred found r line col)
  | _, [], _, _, found, col => by
    rw [List.nil_append, scan_Z barred hz]
    rw [rowScan]
  | 0, c :: t, h, _, _, _ => by simp at h
  | n + 1, c :: t, h, h10, found, col => by
    rw [List.length_cons] at h
    have h1 : ¬ c = 10 := fun e => h10 (by simp [e])
    have h2 : 10 ∉ t := fun m => h10 (by simp [m])
    rw [List.cons_append, scan, rowScan, if_neg h1]
    by_cases h35 : c = 35
    · rw [if_pos h35, if_pos h35, dw_Z hz t h2, scan_Z barred hz]
    · rw [if_neg h35, if_neg h35]
      by_cases h32 : c = 32
      · rw [if_pos h32, if_pos h32]
        exact scan_row barred hz line n t (by omega) h2 found (col + 1)
      · rw [if_neg h32, if_neg h32]
        have e := lWord_Z barred hz c t
        rw [List.cons_append] at e
        rw [e, agree barred]
        cases q : pFault barred ((c :: t).take (pEnd (c :: t))) with
        | some k => rfl
        | none =>
          have hp : 0 < pEnd (c :: t) := by
            refine Nat.pos_of_ne_zero fun e => ?_
            rw [e] at q
            simp [pFault] at q
          have hl := pEnd_le (c :: t)
          have hl2 : ((c :: t).take (pEnd (c :: t))).length = pEnd (c :: t) := by rw [List.length_take]; omega
          rw [List.length_cons] at hl
          simp only [hl2]
          rw [drop_Z (by omega)]
          exact scan_row barred hz line n (t.drop (pEnd (c :: t) - 1)) (by rw [List.length_drop]; omega) (fun m => h2 (List.mem_of_mem_drop m)) _ _
def joinR : List (List Nat) → List Nat
  | [] => []
  | [r] => r
  | r :: s :: rs => r ++ 10 :: joinR (s :: rs)
theorem scan_rows (barred : List (List Nat)) : ∀ (rows : List (List Nat)), rows ≠ [] → (∀ r ∈ rows, 10 ∉ r) → ∀ (found : List Tok) (line : Nat), scan barred found (joinR rows) line 0 = rowsScan barred found rows line
  | [], h, _, _, _ => absurd rfl h
  | [r], _, h, found, line => by
    have e := scan_row barred (z := []) (.inl rfl) line r.length r (Nat.le_refl _) (h r (by simp)) found 0
    rw [List.append_nil] at e
    rw [joinR, e, rowsScan]
    cases rowScan barred found r line 0 with
    | told f => rfl
    | text a b => rfl
  | r :: s :: rs, _, h, found, line => by
    rw [joinR, scan_row barred (z := 10 :: joinR (s :: rs)) (.inr ⟨_, rfl⟩) line r.length r (Nat.le_refl _) (h r (by simp)) found 0, rowsScan]
    cases rowScan barred found r line 0 with
    | told f => exact scan_rows barred (s :: rs) (by simp) (fun r m => h r (by simp [m])) f (line + 1)
    | text a b => rfl
end P6
set_option Elab.async false
namespace P6
/-! the forms of words -/
theorem take_pEnd {c : Nat} {t : List Nat} : (c :: t).take (pEnd (c :: t)) =
    if isL c = true then (if (isU c && second (c :: t) ((c :: t).takeWhile isN).length) = true then (c :: t).takeWhile isN ++ 46 :: ((c :: t).drop (((c :: t).takeWhile isN).length + 1)).takeWhile isN else (c :: t).takeWhile isN)
    else if isF c = true then (c :: t).takeWhile isF
    else if c = 126 ∨ c = 63 then (if 0 < (t.takeWhile isF).length then c :: t.takeWhile isF else [])
    else if (c :: t).take 2 = [45, 62] then [45, 62]
    else if isS c = true then [c] else [] := by
  unfold pEnd
  by_cases hL : isL c = true
  · simp only [hL, if_true]
    have tk : (c :: t).take ((c :: t).takeWhile isN).length = (c :: t).takeWhile isN := take_run _
    by_cases hs : (isU c && second (c :: t) ((c :: t).takeWhile isN).length) = true
    · simp only [hs, if_true]
      obtain ⟨s1, s2⟩ := second_split (Bool.and_eq_true_iff.mp hs).2
      rw [Nat.add_assoc, List.take_add, tk, s1, Nat.add_comm 1, List.take_succ_cons, take_run]
    · rw [Bool.not_eq_true] at hs
      simp only [hs, Bool.false_eq_true, if_false]
      exact tk
  · rw [Bool.not_eq_true] at hL
    simp only [hL, Bool.false_eq_true, if_false]
    by_cases hF : isF c = true
    · simp only [hF, if_true]
      exact take_run _
    · rw [Bool.not_eq_true] at hF
      simp only [hF, Bool.false_eq_true, if_false]
      by_cases hq : c = 126 ∨ c = 63
      · simp only [hq, if_true]
        by_cases hp : 0 < (t.takeWhile isF).length
        · simp only [hp, if_true, List.take_succ_cons, take_run]
        · simp only [hp, if_false, List.take_zero]
      · simp only [hq, if_false]
        by_cases ha : (c :: t).take 2 = [45, 62]
        · simp only [ha, if_true]
        · simp only [ha, if_false]
          by_cases hS : isS c = true
          · simp only [hS, if_true, List.take_succ_cons, List.take_zero]
          · rw [Bool.not_eq_true] at hS
            simp only [hS, Bool.false_eq_true, if_false, List.take_zero]
/-- what a word is like -/
structure Wd (w : List Nat) : Prop where
  one : ∀ c t, w = c :: t → isL c = true → 46 ∉ w ∨ ∃ x y, w = x ++ 46 :: y ∧ 46 ∉ x ∧ 46 ∉ y
  var : ∀ c t, w = c :: t → c = 126 ∨ c = 63 → t ≠ [] ∧ ∀ d ∈ t, isF d = true
  fig : ∀ c t, w = c :: t → isF c = true → ∀ d ∈ t, isF d = true
theorem tw_no46 {t : List Nat} : 46 ∉ t.takeWhile isN := no46 fun _ m => mem_takeWhile m
theorem wd_of {c : Nat} {t : List Nat} : Wd ((c :: t).take (pEnd (c :: t))) := by
  rw [take_pEnd]
  have hd : ∀ p : Nat → Bool, p c = true → (c :: t).takeWhile p = c :: t.takeWhile p := fun p h => by rw [List.takeWhile_cons, if_pos h]
  have none_ : Wd [] := ⟨fun _ _ e => (by cases e), fun _ _ e => (by cases e), fun _ _ e => (by cases e)⟩
  by_cases hL : isL c = true
  · have hN : isN c = true := by
      rw [isN_iff]
      rcases isL_iff.mp hL with z | z
      · exact .inl z
      · exact .inr (.inl z)
    have nF : ¬ isF c = true := fun e => by have := isF_iff.mp e; have := isL_iff.mp hL; omega
    have nq : ¬ (c = 126 ∨ c = 63) := by have := isL_iff.mp hL; omega
    rw [if_pos hL]
    by_cases hs : (isU c && second (c :: t) ((c :: t).takeWhile isN).length) = true
    · rw [if_pos hs]
      refine ⟨fun _ _ _ _ => .inr ⟨_, _, rfl, tw_no46, tw_no46⟩, fun d r e q => ?_, fun d r e q => ?_⟩
      · rw [hd isN hN, List.cons_append] at e
        cases e
        exact absurd q nq
      · rw [hd isN hN, List.cons_append] at e
        cases e
        exact absurd q nF
    · rw [if_neg hs]
      refine ⟨fun _ _ _ _ => .inl tw_no46, fun d r e q => ?_, fun d r e q => ?_⟩
      · rw [hd isN hN] at e
        cases e
        exact absurd q nq
      · rw [hd isN hN] at e
        cases e
        exact absurd q nF
  · rw [if_neg hL]
    by_cases hF : isF c = true
    · rw [if_pos hF]
      have al : ∀ d ∈ (c :: t).takeWhile isF, isF d = true := fun d m => mem_takeWhile m
      refine ⟨fun d r e q => ?_, fun d r e q => ?_, fun d r e q => ?_⟩
      · rw [hd isF hF] at e
        cases e
        exact absurd q hL
      · rw [hd isF hF] at e
        cases e
        have := isF_iff.mp hF
        omega
      · rw [e] at al
        exact fun x m => al x (by simp [m])
    · rw [if_neg hF]
      by_cases hq : c = 126 ∨ c = 63
      · rw [if_pos hq]
        by_cases hp : 0 < (t.takeWhile isF).length
        · rw [if_pos hp]
          have al : ∀ d ∈ t.takeWhile isF, isF d = true := fun d m => mem_takeWhile m
          refine ⟨fun d r e q => ?_, fun d r e q => ?_, fun d r e q => ?_⟩
          · cases e
            exact absurd q hL
          · cases e
            exact ⟨List.length_pos_iff.mp hp, al⟩
          · cases e
            exact absurd q hF
        · rw [if_neg hp]
          exact none_
      · rw [if_neg hq]
        by_cases ha : (c :: t).take 2 = [45, 62]
        · rw [if_pos ha]
          exact ⟨fun d r e q => by cases e; exact absurd q (by decide), fun d r e q => by cases e; omega, fun d r e q => by cases e; exact absurd q (by decide)⟩
        · rw [if_neg ha]
          by_cases hS : isS c = true
          · rw [if_pos hS]
            refine ⟨fun d r e q => ?_, fun d r e q => ?_, fun d r e q => ?_⟩
            · cases e; exact absurd q hL
            · cases e; exact absurd q hq
            · cases e; exact absurd q hF
          · rw [if_neg hS]
            exact none_
end P6
set_option Elab.async false
set_option linter.all false
set_option maxRecDepth 100000
namespace VI
open PySem PySem.Spec PyProof.Rows L2

theorem run_while {t sg : List Nat} {a : Nat} {S : Store} (hl : t.length ≤ lim) : ∀ (k e m : Nat), t.length ≤ e + k → k < m →
    whileL (fAndT (fTest (f2 gLt (fVar 3) (fL gLen (fAc (fVar 0) fA0)))) (fTest (f2 gInA (f2 gIx (fVar 0) (fVar 3)) (fVar 2)))) (fAug 3 (gI2 (fun _ _ => true) fun i j => .int (i + j)) (fC (.int 1))) m [some (st t), some (nt a), some (st sg), some (nt e)] S
      = .next [some (st t), some (nt a), some (st sg), some (nt (e + ((t.drop e).takeWhile fun c => decide (c ∈ sg)).length))] S
  | k, e, 0, _, hm => by omega
  | k, e, m + 1, hk, hm => by
    rw [while_step]
    by_cases he : e < t.length
    · obtain ⟨c, hc⟩ : ∃ c, t[e]? = some c := ⟨t[e], List.getElem?_eq_getElem he⟩
      have hd : t.drop e = c :: t.drop (e + 1) := by
        rw [List.drop_eq_getElem_cons he]
        rw [List.getElem?_eq_getElem he] at hc
        cases hc
        rfl
      cases k with
      | zero => omega
      | succ k =>
      by_cases hs : c ∈ sg
      · have ih := run_while (sg := sg) (a := a) (S := S) hl k (e + 1) m (by omega) (by omega)
        simp only [fSeq, fAsg, fVar, fC, f1, f2, fL, fAc, fA0, fTest, fAndT, fOrT, fNotT, fTru, fAndV, fOrV, fIfE, fIf, fRet, fAug, fDrop, fSl, fPart, fNoPart, intOf, gtName, R_ok, toS_ok, lift_some, boolW_ok, truR_b, List.getElem?_cons_zero, List.getElem?_cons_succ, List.set_cons_zero, List.set_cons_succ, g_len hl, g_lt, g_ix hc hl, g_in, he, hs, decide_true, if_true, g_inc1]
        rw [ih, hd, List.takeWhile_cons, if_pos (by simpa using hs), List.length_cons]
        rw [show ∀ L : Nat, e + 1 + L = e + (L + 1) from fun L => by omega]
      · simp only [fSeq, fAsg, fVar, fC, f1, f2, fL, fAc, fA0, fTest, fAndT, fOrT, fNotT, fTru, fAndV, fOrV, fIfE, fIf, fRet, fAug, fDrop, fSl, fPart, fNoPart, intOf, gtName, R_ok, toS_ok, lift_some, boolW_ok, truR_b, List.getElem?_cons_zero, List.getElem?_cons_succ, List.set_cons_zero, List.set_cons_succ, g_len hl, g_lt, g_ix hc hl, g_in, he, hs, decide_true, decide_false, if_true, Bool.false_eq_true, if_false]
        rw [hd, List.takeWhile_cons, if_neg (by simpa using hs)]
        rfl
    · simp only [fSeq, fAsg, fVar, fC, f1, f2, fL, fAc, fA0, fTest, fAndT, fOrT, fNotT, fTru, fAndV, fOrV, fIfE, fIf, fRet, fAug, fDrop, fSl, fPart, fNoPart, intOf, gtName, R_ok, toS_ok, lift_some, boolW_ok, truR_b, List.getElem?_cons_zero, List.getElem?_cons_succ, List.set_cons_zero, List.set_cons_succ, g_len hl, g_lt, he, decide_false, Bool.false_eq_true, if_false]
      rw [List.drop_of_length_le (by omega)]
      rfl
/-- run_end -/
theorem k_run_end (n : Nat) {t sg : List Nat} {a : Nat} {S : Store} (hl : t.length < 900000) :
    callN (n + 1) 0 [st t, nt a, st sg] S = .ok (nt (a + ((t.drop a).takeWhile fun c => decide (c ∈ sg)).length)) S := by
  have hl2 : t.length ≤ lim := Nat.le_trans (Nat.le_of_lt hl) (by decide)
  show toR (b0 (callN n) [some (st t), some (nt a), some (st sg), none] S) = _
  unfold b0
  have w := run_while (sg := sg) (a := a) (S := S) hl2 t.length a 1000000 (by omega) (by omega)
  simp only [fSeq, fAsg, fVar, fC, f1, f2, fL, fAc, fA0, fTest, fAndT, fOrT, fNotT, fTru, fAndV, fOrV, fIfE, fIf, fRet, fAug, fDrop, fSl, fPart, fNoPart, intOf, gtName, R_ok, toS_ok, lift_some, boolW_ok, truR_b, List.getElem?_cons_zero, List.getElem?_cons_succ, List.set_cons_zero, List.set_cons_succ, w, toR]
end VI
set_option Elab.async false
set_option linter.all false
set_option maxRecDepth 100000
namespace VI
open PySem PySem.Spec PyProof.Rows L2

theorem c_nams : k_NAME_SIGNS = .str (tx P6.nams) := congrArg PyData.str (by decide +kernel)
theorem c_great : k_GREAT_LETTERS = .str (tx P6.great) := congrArg PyData.str (by decide +kernel)
theorem c_lets : k_LETTERS = .str (tx P6.lets) := congrArg PyData.str (by decide +kernel)
theorem c_figs : k_DIGITS = .str (tx P6.figs) := congrArg PyData.str (by decide +kernel)
theorem c_sigs : k_WORD_SIGNS = .str (tx P6.sigs) := congrArg PyData.str (by decide +kernel)
theorem l_dot : Str.ofString "." = tx [46] := by decide +kernel
theorem l_wave : Str.ofString "~" = tx [126] := by decide +kernel
theorem l_ask : Str.ofString "?" = tx [63] := by decide +kernel
theorem l_nil : Str.ofString "" = tx [] := by decide +kernel
theorem l_zero : Str.ofString "0" = tx [48] := by decide +kernel
theorem l_wzero : Str.ofString "~0" = tx [126, 48] := by decide +kernel
theorem l_arrow : Str.ofString "->" = tx [45, 62] := by decide +kernel
theorem l_hash : Str.ofString "#" = tx [35] := by decide +kernel
theorem l_blank : Str.ofString " " = tx [32] := by decide +kernel
theorem l_line : Str.ofString "\n" = tx [10] := by decide +kernel
theorem tw_eq (p : Nat → Bool) (l : List Nat) : l.takeWhile p = l.takeWhile fun c => p c := rfl
section
variable {t : List Nat} {a c : Nat} {r : List Nat} {S : Store}
theorem k_run_N (n : Nat) (hl : t.length < 900000) : callN (n + 1) 0 [st t, nt a, .d k_NAME_SIGNS] S = .ok (nt (a + ((t.drop a).takeWhile P6.isN).length)) S := by
  rw [c_nams]; exact k_run_end n hl
theorem k_run_F (n : Nat) (hl : t.length < 900000) : callN (n + 1) 0 [st t, nt a, .d k_DIGITS] S = .ok (nt (a + ((t.drop a).takeWhile P6.isF).length)) S := by
  rw [c_figs]; exact k_run_end n hl
theorem okc_mem (h : okc t = true) (m : c ∈ t) : okc [c] = true := by
  have := List.all_eq_true.mp h c m
  unfold okc
  rw [List.all_cons, this]
  rfl
theorem okc_sub {u : List Nat} (h : okc t = true) (s : ∀ c ∈ u, c ∈ t) : okc u = true := List.all_eq_true.mpr fun c m => List.all_eq_true.mp h c (s c m)
theorem okc_cut (h : okc t = true) (i j : Nat) : okc ((t.drop i).take j) = true := okc_sub h fun c m => List.mem_of_mem_drop (List.mem_of_mem_take m)
theorem drop_at (h : t.drop a = c :: r) : t[a]? = some c ∧ a < t.length ∧ r = t.drop (a + 1) ∧ c ∈ t := by
  have ha : a < t.length := by
    by_cases z : a < t.length
    · exact z
    · rw [List.drop_of_length_le (by omega)] at h; cases h
  rw [List.drop_eq_getElem_cons ha] at h
  cases h
  exact ⟨List.getElem?_eq_getElem ha, ha, rfl, List.getElem_mem ha⟩
theorem second_at (n : Nat) : P6.second (t.drop a) n = (decide ((t.drop (a + n)).take 1 = [46]) && match t[a + n + 1]? with | some d => P6.isL d | none => false) := by
  unfold P6.second
  rw [List.getElem?_drop, List.getElem?_drop, Nat.add_assoc]
  congr 1
  by_cases h : a + n < t.length
  · rw [List.drop_eq_getElem_cons h, List.getElem?_eq_getElem h]
    by_cases e : t[a + n] = 46
    · rw [e]; rfl
    · simp only [List.take_succ_cons, List.take_zero, List.cons.injEq, and_true]
      by_cases z : t[a + n] = 46 <;> simp [z]
  · rw [List.drop_of_length_le (by omega), List.getElem?_eq_none (by omega)]
    rfl
/-- name_end -/
theorem k_name_end (n : Nat) (h : t.drop a = c :: r) (hL : P6.isL c = true) (hl : t.length < 900000) (hk : okc t = true) : callN (n + 2) 1 [st t, nt a] S = .ok (nt (a + P6.pEnd (c :: r))) S := by
  obtain ⟨hc, ha, hr, hm⟩ := drop_at h
  have hl2 : t.length ≤ lim := Nat.le_trans (Nat.le_of_lt hl) (by decide)
  show toR (b1 (callN (n + 1)) [some (st t), some (nt a), none, none] S) = _
  unfold b1
  have hp : P6.pEnd (c :: r) = if (P6.isU c && P6.second (t.drop a) ((t.drop a).takeWhile P6.isN).length) = true then ((t.drop a).takeWhile P6.isN).length + 1 + ((t.drop (a + (((t.drop a).takeWhile P6.isN).length + 1))).takeWhile P6.isN).length else ((t.drop a).takeWhile P6.isN).length := by
    rw [← List.drop_drop, h]
    show (if P6.isL c = true then _ else _) = _
    rw [if_pos hL]
  rw [hp]
  generalize ek : ((t.drop a).takeWhile P6.isN).length = k
  have f1_ : (if ([st t, nt a, .d k_NAME_SIGNS] : List W).length = 3 then frz S.length (callN (n + 1) 0 [st t, nt a, .d k_NAME_SIGNS] S) else R.bad) = .ok (nt (a + k)) S := by
    rw [← ek]; exact fcall_same (k_run_N n hl) rfl
  have f2_ : (if ([st t, nt (a + k + 1), .d k_NAME_SIGNS] : List W).length = 3 then frz S.length (callN (n + 1) 0 [st t, nt (a + k + 1), .d k_NAME_SIGNS] S) else R.bad) = .ok (nt (a + k + 1 + ((t.drop (a + k + 1)).takeWhile P6.isN).length)) S := fcall_same (k_run_N n hl) rfl
  rw [second_at]
  have hq : gEq (st ((t.drop (a + k)).take 1)) (st [46]) S = some (bt (decide ((t.drop (a + k)).take 1 = [46])), S) := g_eqs (okc_cut hk _ _) (by decide)
  have hU : P6.isU c = decide (c ∈ P6.great) := rfl
  simp only [fSeq, fAsg, fVar, fC, f1, f2, fL, fAc, fA0, fTest, fAndT, fOrT, fNotT, fTru, fAndV, fOrV, fIfE, fIf, fRet, fAug, fDrop, fSl, fPart, fNoPart, intOf, gtName, R_ok, toS_ok, lift_some, boolW_ok, truR_b, List.getElem?_cons_zero, List.getElem?_cons_succ, List.set_cons_zero, List.set_cons_succ, fCall, f1_]
  by_cases h1 : c ∈ P6.great
  · by_cases h2 : (t.drop (a + k)).take 1 = [46]
    · have hq2 : decide ((t.drop (a + k)).take 1 = [46]) = true := decide_eq_true h2
      rw [hq2] at hq
      by_cases h3 : a + k + 1 < t.length
      · have hd : t[a + k + 1]? = some t[a + k + 1] := List.getElem?_eq_getElem h3
        have hLd : P6.isL t[a + k + 1] = decide (t[a + k + 1] ∈ P6.lets) := rfl
        by_cases h4 : t[a + k + 1] ∈ P6.lets
        · simp only [fSeq, fAsg, fVar, fC, f1, f2, fL, fAc, fA0, fTest, fAndT, fOrT, fNotT, fTru, fAndV, fOrV, fIfE, fIf, fRet, fAug, fDrop, fSl, fPart, fNoPart, intOf, gtName, R_ok, toS_ok, lift_some, boolW_ok, truR_b, List.getElem?_cons_zero, List.getElem?_cons_succ, List.set_cons_zero, List.set_cons_succ, c_great, c_lets, l_dot, g_ix hc hl2, g_in, h1, decide_true, g_add1, g_sl1 hl2, hq, hq2, g_len hl2, g_lt, h3, hd, g_ix hd hl2, h4, if_true, f2_, toR, hU, hLd, Bool.true_and, Bool.and_self]
          rw [show a + (k + 1) = a + k + 1 from rfl]
          simp only [Nat.add_assoc]
        · simp only [fSeq, fAsg, fVar, fC, f1, f2, fL, fAc, fA0, fTest, fAndT, fOrT, fNotT, fTru, fAndV, fOrV, fIfE, fIf, fRet, fAug, fDrop, fSl, fPart, fNoPart, intOf, gtName, R_ok, toS_ok, lift_some, boolW_ok, truR_b, List.getElem?_cons_zero, List.getElem?_cons_succ, List.set_cons_zero, List.set_cons_succ, c_great, c_lets, l_dot, g_ix hc hl2, g_in, h1, decide_true, g_add1, g_sl1 hl2, hq, hq2, g_len hl2, g_lt, h3, hd, g_ix hd hl2, h4, if_true, fNext, decide_false, Bool.false_eq_true, if_false, toR, hU, hLd, Bool.true_and, Bool.and_false]
      · simp only [fSeq, fAsg, fVar, fC, f1, f2, fL, fAc, fA0, fTest, fAndT, fOrT, fNotT, fTru, fAndV, fOrV, fIfE, fIf, fRet, fAug, fDrop, fSl, fPart, fNoPart, intOf, gtName, R_ok, toS_ok, lift_some, boolW_ok, truR_b, List.getElem?_cons_zero, List.getElem?_cons_succ, List.set_cons_zero, List.set_cons_succ, c_great, c_lets, l_dot, g_ix hc hl2, g_in, h1, decide_true, g_add1, g_sl1 hl2, hq, hq2, g_len hl2, g_lt, h3, if_true, fNext, decide_false, Bool.false_eq_true, if_false, toR, hU, Bool.true_and, List.getElem?_eq_none (Nat.le_of_not_lt h3), Bool.and_false]
    · simp only [fSeq, fAsg, fVar, fC, f1, f2, fL, fAc, fA0, fTest, fAndT, fOrT, fNotT, fTru, fAndV, fOrV, fIfE, fIf, fRet, fAug, fDrop, fSl, fPart, fNoPart, intOf, gtName, R_ok, toS_ok, lift_some, boolW_ok, truR_b, List.getElem?_cons_zero, List.getElem?_cons_succ, List.set_cons_zero, List.set_cons_succ, c_great, c_lets, l_dot, g_ix hc hl2, g_in, h1, decide_true, g_add1, g_sl1 hl2, hq, h2, if_true, fNext, decide_false, Bool.false_eq_true, if_false, toR, hU, Bool.true_and, Bool.false_and]
  · simp only [fSeq, fAsg, fVar, fC, f1, f2, fL, fAc, fA0, fTest, fAndT, fOrT, fNotT, fTru, fAndV, fOrV, fIfE, fIf, fRet, fAug, fDrop, fSl, fPart, fNoPart, intOf, gtName, R_ok, toS_ok, lift_some, boolW_ok, truR_b, List.getElem?_cons_zero, List.getElem?_cons_succ, List.set_cons_zero, List.set_cons_succ, c_great, c_lets, l_dot, g_ix hc hl2, g_in, h1, fNext, decide_false, Bool.false_eq_true, if_false, toR, hU, Bool.false_and]
end
end VI
set_option Elab.async false
set_option linter.all false
set_option maxRecDepth 100000
namespace VI
open PySem PySem.Spec PyProof.Rows L2

section
variable {t f w : List Nat} {a c : Nat} {r : List Nat} {S : Store}
theorem isL_d {c : Nat} : P6.isL c = decide (c ∈ P6.lets) := rfl
theorem isF_d {c : Nat} : P6.isF c = decide (c ∈ P6.figs) := rfl
theorem isS_d {c : Nat} : P6.isS c = decide (c ∈ P6.sigs) := rfl
/-- word_end -/
theorem k_word_end (n : Nat) (h : t.drop a = c :: r) (hl : t.length < 900000) (hk : okc t = true) : callN (n + 3) 2 [st t, nt a] S = .ok (nt (a + P6.pEnd (c :: r))) S := by
  obtain ⟨hc, ha, hr, hm⟩ := drop_at h
  have hl2 : t.length ≤ lim := Nat.le_trans (Nat.le_of_lt hl) (by decide)
  have oc := okc_mem hk hm
  show toR (b2 (callN (n + 2)) [some (st t), some (nt a), none, none] S) = _
  unfold b2
  have q1 : gEq (st [c]) (st [126]) S = some (bt (decide ([c] = [126])), S) := g_eqs oc (by decide)
  have q2 : gEq (st [c]) (st [63]) S = some (bt (decide ([c] = [63])), S) := g_eqs oc (by decide)
  have q3 : gEq (st ((t.drop a).take 2)) (st [45, 62]) S = some (bt (decide ((t.drop a).take 2 = [45, 62])), S) := g_eqs (okc_cut hk _ _) (by decide)
  simp only [List.cons.injEq, and_true] at q1 q2
  by_cases hL : c ∈ P6.lets
  · have f1_ : (if ([st t, nt a] : List W).length = 2 then frz S.length (callN (n + 2) 1 [st t, nt a] S) else R.bad) = .ok (nt (a + P6.pEnd (c :: r))) S := fcall_same (k_name_end n h (decide_eq_true hL) hl hk) rfl
    simp only [fSeq, fAsg, fVar, fC, f1, f2, fL, fAc, fA0, fTest, fAndT, fOrT, fNotT, fTru, fAndV, fOrV, fIfE, fIf, fRet, fAug, fDrop, fSl, fPart, fNoPart, intOf, gtName, R_ok, toS_ok, lift_some, boolW_ok, truR_b, List.getElem?_cons_zero, List.getElem?_cons_succ, List.set_cons_zero, List.set_cons_succ, fCall, g_ix hc hl2, c_lets, g_in, hL, decide_true, if_true, f1_, toR]
  · by_cases hF : c ∈ P6.figs
    · have f1_ : (if ([st t, nt a, .d k_DIGITS] : List W).length = 3 then frz S.length (callN (n + 2) 0 [st t, nt a, .d k_DIGITS] S) else R.bad) = .ok (nt (a + ((t.drop a).takeWhile P6.isF).length)) S := fcall_same (k_run_F (n + 1) hl) rfl
      have hp : P6.pEnd (c :: r) = ((t.drop a).takeWhile P6.isF).length := by
        rw [h]
        simp only [P6.pEnd, isL_d, isF_d, hL, hF, decide_false, decide_true, if_true, Bool.false_eq_true, if_false]
      rw [hp]
      have gF : gInA (st [c]) (.d k_DIGITS) S = some (bt (decide (c ∈ P6.figs)), S) := c_figs ▸ g_in
      simp only [fSeq, fAsg, fVar, fC, f1, f2, fL, fAc, fA0, fTest, fAndT, fOrT, fNotT, fTru, fAndV, fOrV, fIfE, fIf, fRet, fAug, fDrop, fSl, fPart, fNoPart, intOf, gtName, R_ok, toS_ok, lift_some, boolW_ok, truR_b, List.getElem?_cons_zero, List.getElem?_cons_succ, List.set_cons_zero, List.set_cons_succ, fCall, g_ix hc hl2, c_lets, g_in, hL, hF, decide_false, decide_true, if_true, Bool.false_eq_true, if_false, fNext, f1_, toR, gF]
    · have gF : gInA (st [c]) (.d k_DIGITS) S = some (bt (decide (c ∈ P6.figs)), S) := c_figs ▸ g_in
      by_cases hq : c = 126 ∨ c = 63
      · have f1_ : (if ([st t, nt (a + 1), .d k_DIGITS] : List W).length = 3 then frz S.length (callN (n + 2) 0 [st t, nt (a + 1), .d k_DIGITS] S) else R.bad) = .ok (nt (a + 1 + ((t.drop (a + 1)).takeWhile P6.isF).length)) S := fcall_same (k_run_F (n + 1) hl) rfl
        have hp : P6.pEnd (c :: r) = if 0 < ((t.drop (a + 1)).takeWhile P6.isF).length then ((t.drop (a + 1)).takeWhile P6.isF).length + 1 else 0 := by
          rw [← hr]
          simp only [P6.pEnd, isL_d, isF_d, hL, hF, hq, decide_false, if_true, Bool.false_eq_true, if_false]
        rw [hp]
        generalize ((t.drop (a + 1)).takeWhile P6.isF).length = k at f1_ ⊢
        rcases hq with rfl | rfl
        · have q1 : gEq (st [126]) (st [126]) S = some (bt true, S) := g_eqs (by decide) (by decide)
          by_cases h0 : 0 < k
          · have h1 : a + 1 < a + 1 + k := by omega
            simp only [fSeq, fAsg, fVar, fC, f1, f2, fL, fAc, fA0, fTest, fAndT, fOrT, fNotT, fTru, fAndV, fOrV, fIfE, fIf, fRet, fAug, fDrop, fSl, fPart, fNoPart, intOf, gtName, R_ok, toS_ok, lift_some, boolW_ok, truR_b, List.getElem?_cons_zero, List.getElem?_cons_succ, List.set_cons_zero, List.set_cons_succ, fCall, g_ix hc hl2, c_lets, g_in, hL, gF, hF, decide_false, Bool.false_eq_true, if_false, fNext, l_wave, l_ask, q1, decide_true, if_true, g_add1, f1_, g_gt, h1, h0, toR]
            rw [show a + 1 + k = a + (k + 1) by omega]
          · have k0 : k = 0 := by omega
            subst k0
            simp only [fSeq, fAsg, fVar, fC, f1, f2, fL, fAc, fA0, fTest, fAndT, fOrT, fNotT, fTru, fAndV, fOrV, fIfE, fIf, fRet, fAug, fDrop, fSl, fPart, fNoPart, intOf, gtName, R_ok, toS_ok, lift_some, boolW_ok, truR_b, List.getElem?_cons_zero, List.getElem?_cons_succ, List.set_cons_zero, List.set_cons_succ, fCall, g_ix hc hl2, c_lets, g_in, hL, gF, hF, decide_false, Bool.false_eq_true, if_false, fNext, l_wave, l_ask, q1, decide_true, if_true, g_add1, f1_, g_gt, Nat.add_zero, Nat.lt_irrefl, toR]
        · have q1 : gEq (st [63]) (st [126]) S = some (bt false, S) := g_eqs (by decide) (by decide)
          have q2 : gEq (st [63]) (st [63]) S = some (bt true, S) := g_eqs (by decide) (by decide)
          by_cases h0 : 0 < k
          · have h1 : a + 1 < a + 1 + k := by omega
            simp only [fSeq, fAsg, fVar, fC, f1, f2, fL, fAc, fA0, fTest, fAndT, fOrT, fNotT, fTru, fAndV, fOrV, fIfE, fIf, fRet, fAug, fDrop, fSl, fPart, fNoPart, intOf, gtName, R_ok, toS_ok, lift_some, boolW_ok, truR_b, List.getElem?_cons_zero, List.getElem?_cons_succ, List.set_cons_zero, List.set_cons_succ, fCall, g_ix hc hl2, c_lets, g_in, hL, gF, hF, decide_false, Bool.false_eq_true, if_false, fNext, l_wave, l_ask, q1, q2, decide_true, if_true, g_add1, f1_, g_gt, h1, h0, toR]
            rw [show a + 1 + k = a + (k + 1) by omega]
          · have k0 : k = 0 := by omega
            subst k0
            simp only [fSeq, fAsg, fVar, fC, f1, f2, fL, fAc, fA0, fTest, fAndT, fOrT, fNotT, fTru, fAndV, fOrV, fIfE, fIf, fRet, fAug, fDrop, fSl, fPart, fNoPart, intOf, gtName, R_ok, toS_ok, lift_some, boolW_ok, truR_b, List.getElem?_cons_zero, List.getElem?_cons_succ, List.set_cons_zero, List.set_cons_succ, fCall, g_ix hc hl2, c_lets, g_in, hL, gF, hF, decide_false, Bool.false_eq_true, if_false, fNext, l_wave, l_ask, q1, q2, decide_true, if_true, g_add1, f1_, g_gt, Nat.add_zero, Nat.lt_irrefl, toR]
      · have h126 : ¬ c = 126 := fun z => hq (.inl z)
        have h63 : ¬ c = 63 := fun z => hq (.inr z)
        by_cases hA : (t.drop a).take 2 = [45, 62]
        · have hp : P6.pEnd (c :: r) = 2 := by
            have hA2 := hA
            rw [h] at hA2
            simp only [P6.pEnd, isL_d, isF_d, hL, hF, hq, hA2, decide_false, if_true, Bool.false_eq_true, if_false]
          rw [decide_eq_true hA] at q3
          rw [hp]
          simp only [fSeq, fAsg, fVar, fC, f1, f2, fL, fAc, fA0, fTest, fAndT, fOrT, fNotT, fTru, fAndV, fOrV, fIfE, fIf, fRet, fAug, fDrop, fSl, fPart, fNoPart, intOf, gtName, R_ok, toS_ok, lift_some, boolW_ok, truR_b, List.getElem?_cons_zero, List.getElem?_cons_succ, List.set_cons_zero, List.set_cons_succ, g_ix hc hl2, c_lets, g_in, hL, gF, hF, decide_false, Bool.false_eq_true, if_false, fNext, l_wave, l_ask, l_arrow, q1, q2, q3, h126, h63, if_true, g_add2, g_sl2 hl2, toR]
        · rw [decide_eq_false hA] at q3
          have hA2 := hA
          rw [h] at hA2
          by_cases hS : c ∈ P6.sigs
          · have hp : P6.pEnd (c :: r) = 1 := by
              simp only [P6.pEnd, isL_d, isF_d, isS_d, hL, hF, hq, hA2, hS, decide_false, decide_true, if_true, Bool.false_eq_true, if_false]
            rw [hp]
            simp only [fSeq, fAsg, fVar, fC, f1, f2, fL, fAc, fA0, fTest, fAndT, fOrT, fNotT, fTru, fAndV, fOrV, fIfE, fIf, fRet, fAug, fDrop, fSl, fPart, fNoPart, intOf, gtName, R_ok, toS_ok, lift_some, boolW_ok, truR_b, List.getElem?_cons_zero, List.getElem?_cons_succ, List.set_cons_zero, List.set_cons_succ, g_ix hc hl2, c_lets, c_sigs, g_in, hL, gF, hF, hS, decide_true, decide_false, Bool.false_eq_true, if_false, fNext, l_wave, l_ask, l_arrow, q1, q2, q3, h126, h63, if_true, g_add1, g_add2, g_sl2 hl2, toR]
          · have hp : P6.pEnd (c :: r) = 0 := by
              simp only [P6.pEnd, isL_d, isF_d, isS_d, hL, hF, hq, hA2, hS, decide_false, if_true, Bool.false_eq_true, if_false]
            rw [hp]
            simp only [fSeq, fAsg, fVar, fC, f1, f2, fL, fAc, fA0, fTest, fAndT, fOrT, fNotT, fTru, fAndV, fOrV, fIfE, fIf, fRet, fAug, fDrop, fSl, fPart, fNoPart, intOf, gtName, R_ok, toS_ok, lift_some, boolW_ok, truR_b, List.getElem?_cons_zero, List.getElem?_cons_succ, List.set_cons_zero, List.set_cons_succ, g_ix hc hl2, c_lets, c_sigs, g_in, hL, gF, hF, hS, decide_false, Bool.false_eq_true, if_false, fNext, l_wave, l_ask, l_arrow, q1, q2, q3, h126, h63, if_true, g_add1, g_add2, g_sl2 hl2, toR, Nat.add_zero]
end
end VI
set_option Elab.async false
set_option linter.all false
set_option maxRecDepth 100000
namespace VI
open PySem PySem.Spec PyProof.Rows L2

theorem g_ix0 {c : Nat} {r : List Nat} {S : Store} (hl : (c :: r).length ≤ lim) : gIx (st (c :: r)) (.d (.int 0)) S = some (st [c], S) := g_ix (i := 0) rfl hl
theorem g_sf1 {c : Nat} {r : List Nat} {S : Store} (hl : (c :: r).length ≤ lim) : gSlA (st (c :: r)) (some 1) none S = some (st r, S) := g_sf (i := 1) hl
theorem g_gtK {i : Nat} {S : Store} (k : Nat) {w : W} (h : w = nt k) : gGt (nt i) w S = some (bt (decide (k < i)), S) := by rw [h]; exact g_gt
theorem g_leK {i : Nat} {S : Store} (k : Nat) {w : W} (h : w = nt k) : gLe (nt i) w S = some (bt (decide (i ≤ k)), S) := by rw [h]; exact g_le
theorem g_gt0 {i : Nat} {S : Store} : gGt (nt i) (.d (.int 0)) S = some (bt (decide (0 < i)), S) := g_gt (j := 0)
theorem k_long : W.d k_LONGEST_NUMBER = nt 10 := rfl
theorem k_name : W.d k_LONGEST_NAME = nt 20 := rfl
theorem g_int {f : List Nat} {S : Store} (hf : ∀ c ∈ f, P6.isF c = true) (hn : f ≠ []) (hl : f.length ≤ 640) : gIntA [st f] S = some (nt (P6.val f), S) := by
  have e : PySem.intText? (tx f) = some ((NumText.digitsVal f : Nat) : Int) := SX.int_S (List.all_eq_true.mpr fun c m => by
    have := P6.isF_iff.mp (hf c m)
    simp only [Bool.and_eq_true, decide_eq_true_eq]
    exact this) hn (by omega)
  show (match PySem.intText? (tx f) with | some n => if (tx f).length ≤ 640 then some (W.d (.int n), S) else none | none => none) = _
  rw [e]
  show (if (tx f).length ≤ 640 then some (W.d (.int ((NumText.digitsVal f : Nat) : Int)), S) else none) = _
  rw [len_tx, if_pos hl]
  rfl
section
variable {t f w : List Nat} {a c : Nat} {r : List Nat} {S : Store}
/-- are_plain_digits -/
theorem k_plain (n : Nat) (hn : f ≠ []) (hl : f.length ≤ lim) (hk : okc f = true) : callN (n + 1) 3 [st f] S = .ok (bt (P6.plainD f)) S := by
  cases f with
  | nil => exact absurd rfl hn
  | cons c r =>
    show toR (b3 (callN n) [some (st (c :: r))] S) = _
    unfold b3
    have q1 : gEq (st (c :: r)) (st [48]) S = some (bt (decide (c :: r = [48])), S) := g_eqs hk (by decide)
    have q2 : gNe (st [c]) (st [48]) S = some (bt (!decide ([c] = [48])), S) := g_nes (okc_mem hk (by simp)) (by decide)
    have hp : P6.plainD (c :: r) = (decide (c :: r = [48]) || !decide ([c] = [48])) := by
      unfold P6.plainD
      have e1 : (c :: r == [48]) = decide (c :: r = [48]) := by
        by_cases z : c :: r = [48]
        · rw [decide_eq_true z, z]; rfl
        · rw [decide_eq_false z]; exact beq_false_of_ne z
      have e2 : ((c :: r).head? != some 48) = !decide ([c] = [48]) := by
        by_cases h : c = 48
        · subst h; rfl
        · simp [h]
      rw [e1, e2]
    rw [hp]
    by_cases h1 : c :: r = [48]
    · rw [decide_eq_true h1] at q1 ⊢
      simp only [fSeq, fAsg, fVar, fC, f1, f2, fL, fAc, fA0, fTest, fAndT, fOrT, fNotT, fTru, fAndV, fOrV, fIfE, fIf, fRet, fAug, fDrop, fSl, fPart, fNoPart, intOf, gtName, R_ok, toS_ok, lift_some, boolW_ok, truR_b, List.getElem?_cons_zero, List.getElem?_cons_succ, List.set_cons_zero, List.set_cons_succ, l_zero, q1, toR, Bool.true_or]
    · rw [decide_eq_false h1] at q1 ⊢
      simp only [fSeq, fAsg, fVar, fC, f1, f2, fL, fAc, fA0, fTest, fAndT, fOrT, fNotT, fTru, fAndV, fOrV, fIfE, fIf, fRet, fAug, fDrop, fSl, fPart, fNoPart, intOf, gtName, R_ok, toS_ok, lift_some, boolW_ok, truR_b, List.getElem?_cons_zero, List.getElem?_cons_succ, List.set_cons_zero, List.set_cons_succ, l_zero, q1, g_ix0 hl, q2, toR, Bool.false_or]
/-- number_told -/
theorem k_told_neg (n : Nat) (hf : ∀ c ∈ f, P6.isF c = true) (hn : f ≠ []) (hl : f.length ≤ 600) : callN (n + 1) 5 [st (126 :: f)] S = .ok (.d (.int (-(P6.val f : Int)))) S := by
  show toR (b5 (callN n) [some (st (126 :: f))] S) = _
  unfold b5
  have hl2 : (126 :: f).length ≤ lim := by show f.length + 1 ≤ 16777216; omega
  have q1 : gEq (st [126]) (st [126]) S = some (bt true, S) := g_eqs (by decide) (by decide)
  have q2 : gNeg (nt (P6.val f)) S = some (.d (.int (-(P6.val f : Int))), S) := rfl
  simp only [fSeq, fAsg, fVar, fC, f1, f2, fL, fAc, fA0, fTest, fAndT, fOrT, fNotT, fTru, fAndV, fOrV, fIfE, fIf, fRet, fAug, fDrop, fSl, fPart, fNoPart, intOf, gtName, R_ok, toS_ok, lift_some, boolW_ok, truR_b, List.getElem?_cons_zero, List.getElem?_cons_succ, List.set_cons_zero, List.set_cons_succ, l_wave, g_ix0 hl2, q1, if_true, g_sf1 hl2, g_int hf hn (by omega : f.length ≤ 640), q2, toR]
theorem k_told_pos (n : Nat) (hf : ∀ d ∈ c :: r, P6.isF d = true) (hl : (c :: r).length ≤ 600) : callN (n + 1) 5 [st (c :: r)] S = .ok (nt (P6.val (c :: r))) S := by
  show toR (b5 (callN n) [some (st (c :: r))] S) = _
  unfold b5
  have hl2 : (c :: r).length ≤ lim := Nat.le_trans hl (by decide)
  have hc := P6.isF_iff.mp (hf c (by simp))
  have oc : okc [c] = true := by
    unfold okc
    simp only [List.all_cons, List.all_nil, Bool.and_true, decide_eq_true_eq]
    omega
  have q1 : gEq (st [c]) (st [126]) S = some (bt (decide ([c] = [126])), S) := g_eqs oc (by decide)
  rw [decide_eq_false (by simp; omega)] at q1
  simp only [fSeq, fAsg, fVar, fC, f1, f2, fL, fAc, fA0, fTest, fAndT, fOrT, fNotT, fTru, fAndV, fOrV, fIfE, fIf, fRet, fAug, fDrop, fSl, fPart, fNoPart, intOf, gtName, R_ok, toS_ok, lift_some, boolW_ok, truR_b, List.getElem?_cons_zero, List.getElem?_cons_succ, List.set_cons_zero, List.set_cons_succ, l_wave, g_ix0 hl2, q1, Bool.false_eq_true, if_false, g_int hf (by simp) (by omega : (c :: r).length ≤ 640), toR]
theorem okc_figs (hf : ∀ c ∈ f, P6.isF c = true) : okc f = true := List.all_eq_true.mpr fun c m => by
  have := P6.isF_iff.mp (hf c m)
  exact decide_eq_true (by omega)
/-- is_number_word -/
theorem k_num_neg (n : Nat) (hf : ∀ c ∈ f, P6.isF c = true) (hn : f ≠ []) (hl : f.length < 900000) : callN (n + 2) 4 [st (126 :: f)] S = .ok (bt (P6.numW (126 :: f))) S := by
  show toR (b4 (callN (n + 1)) [some (st (126 :: f)), none] S) = _
  unfold b4
  have hl2 : (126 :: f).length ≤ lim := by show f.length + 1 ≤ 16777216; omega
  have hl3 : f.length ≤ lim := by show f.length ≤ 16777216; omega
  have q1 : gEq (st [126]) (st [126]) S = some (bt true, S) := g_eqs (by decide) (by decide)
  have oc := okc_figs hf
  have oc2 : okc (126 :: f) = true := by
    unfold okc at oc ⊢
    rw [List.all_cons, oc]
    rfl
  have q2 : gEq (st (126 :: f)) (st [126, 48]) S = some (bt (decide (126 :: f = [126, 48])), S) := g_eqs oc2 (by decide)
  have f1_ : (if ([st f] : List W).length = 1 then frz S.length (callN (n + 1) 3 [st f] S) else R.bad) = .ok (bt (P6.plainD f)) S := fcall_same (k_plain n hn hl3 oc) rfl
  have hnw : P6.numW (126 :: f) = (P6.plainD f && decide (f.length ≤ 10) && decide (f ≠ [48]) && decide (P6.val f ≤ 2147483648)) := by
    rfl
  rw [hnw]
  by_cases h1 : P6.plainD f = true
  · by_cases h2 : 10 < f.length
    · have h2' : decide (f.length ≤ 10) = false := decide_eq_false (by omega)
      simp only [fSeq, fAsg, fVar, fC, f1, f2, fL, fAc, fA0, fTest, fAndT, fOrT, fNotT, fTru, fAndV, fOrV, fIfE, fIf, fRet, fAug, fDrop, fSl, fPart, fNoPart, intOf, gtName, R_ok, toS_ok, lift_some, boolW_ok, truR_b, List.getElem?_cons_zero, List.getElem?_cons_succ, List.set_cons_zero, List.set_cons_succ, fCall, l_wave, g_ix0 hl2, q1, if_true, g_sf1 hl2, f1_, h1, Bool.not_true, Bool.false_eq_true, if_false, g_len hl3, g_gtK 10 k_long, h2, decide_true, toR, h2', Bool.and_false, Bool.false_and]
    · have h2' : decide (f.length ≤ 10) = true := decide_eq_true (by omega)
      by_cases h3 : f = [48]
      · have q3 : decide (126 :: f = [126, 48]) = true := decide_eq_true (by rw [h3])
        rw [q3] at q2
        have h3' : decide (f ≠ [48]) = false := decide_eq_false (fun z => z h3)
        simp only [fSeq, fAsg, fVar, fC, f1, f2, fL, fAc, fA0, fTest, fAndT, fOrT, fNotT, fTru, fAndV, fOrV, fIfE, fIf, fRet, fAug, fDrop, fSl, fPart, fNoPart, intOf, gtName, R_ok, toS_ok, lift_some, boolW_ok, truR_b, List.getElem?_cons_zero, List.getElem?_cons_succ, List.set_cons_zero, List.set_cons_succ, fCall, l_wave, l_wzero, g_ix0 hl2, q1, if_true, g_sf1 hl2, f1_, h1, Bool.not_true, Bool.false_eq_true, if_false, g_len hl3, g_gtK 10 k_long, h2, decide_false, q2, toR, h3', Bool.and_false, Bool.false_and]
      · have q3 : decide (126 :: f = [126, 48]) = false := decide_eq_false (fun z => h3 (List.cons.inj z).2)
        rw [q3] at q2
        have h3' : decide (f ≠ [48]) = true := decide_eq_true h3
        have f2_ : (if ([st (126 :: f)] : List W).length = 1 then frz S.length (callN (n + 1) 5 [st (126 :: f)] S) else R.bad) = .ok (.d (.int (-(P6.val f : Int)))) S := fcall_same (k_told_neg n hf hn (by omega)) rfl
        have g1 : gLe (.d k_LEAST_NUMBER) (.d (.int (-(P6.val f : Int)))) S = some (bt (decide (-2147483648 ≤ -(P6.val f : Int))), S) := rfl
        have g2 : gLe (.d (.int (-(P6.val f : Int)))) (.d k_GREATEST_NUMBER) S = some (bt (decide (-(P6.val f : Int) ≤ 2147483647)), S) := rfl
        have e2 : decide (-(P6.val f : Int) ≤ 2147483647) = true := decide_eq_true (by omega)
        rw [e2] at g2
        by_cases h4 : P6.val f ≤ 2147483648
        · have e1 : decide (-2147483648 ≤ -(P6.val f : Int)) = true := decide_eq_true (by omega)
          rw [e1] at g1
          simp only [fSeq, fAsg, fVar, fC, f1, f2, fL, fAc, fA0, fTest, fAndT, fOrT, fNotT, fTru, fAndV, fOrV, fIfE, fIf, fRet, fAug, fDrop, fSl, fPart, fNoPart, intOf, gtName, R_ok, toS_ok, lift_some, boolW_ok, truR_b, List.getElem?_cons_zero, List.getElem?_cons_succ, List.set_cons_zero, List.set_cons_succ, fCall, fChain, fNext, l_wave, l_wzero, g_ix0 hl2, q1, if_true, g_sf1 hl2, f1_, h1, Bool.not_true, Bool.false_eq_true, if_false, g_len hl3, g_gtK 10 k_long, h2, decide_false, q2, f2_, g1, g2, toR, h3', h2', h4, decide_true, Bool.and_self]
        · have e1 : decide (-2147483648 ≤ -(P6.val f : Int)) = false := decide_eq_false (by omega)
          rw [e1] at g1
          simp only [fSeq, fAsg, fVar, fC, f1, f2, fL, fAc, fA0, fTest, fAndT, fOrT, fNotT, fTru, fAndV, fOrV, fIfE, fIf, fRet, fAug, fDrop, fSl, fPart, fNoPart, intOf, gtName, R_ok, toS_ok, lift_some, boolW_ok, truR_b, List.getElem?_cons_zero, List.getElem?_cons_succ, List.set_cons_zero, List.set_cons_succ, fCall, fChain, fNext, l_wave, l_wzero, g_ix0 hl2, q1, if_true, g_sf1 hl2, f1_, h1, Bool.not_true, Bool.false_eq_true, if_false, g_len hl3, g_gtK 10 k_long, h2, decide_false, q2, f2_, g1, toR, h3', h2', h4, Bool.and_false]
  · rw [Bool.not_eq_true] at h1
    simp only [fSeq, fAsg, fVar, fC, f1, f2, fL, fAc, fA0, fTest, fAndT, fOrT, fNotT, fTru, fAndV, fOrV, fIfE, fIf, fRet, fAug, fDrop, fSl, fPart, fNoPart, intOf, gtName, R_ok, toS_ok, lift_some, boolW_ok, truR_b, List.getElem?_cons_zero, List.getElem?_cons_succ, List.set_cons_zero, List.set_cons_succ, fCall, l_wave, g_ix0 hl2, q1, if_true, g_sf1 hl2, f1_, h1, Bool.not_false, toR, Bool.false_and]
theorem k_num_pos (n : Nat) (hf : ∀ d ∈ c :: r, P6.isF d = true) (hl : (c :: r).length < 900000) : callN (n + 2) 4 [st (c :: r)] S = .ok (bt (P6.numW (c :: r))) S := by
  show toR (b4 (callN (n + 1)) [some (st (c :: r)), none] S) = _
  unfold b4
  have hl2 : (c :: r).length ≤ lim := Nat.le_trans (Nat.le_of_lt hl) (by decide)
  have hc := P6.isF_iff.mp (hf c (by simp))
  have oc := okc_figs hf
  have q1 : gEq (st [c]) (st [126]) S = some (bt (decide ([c] = [126])), S) := g_eqs (okc_mem oc (by simp)) (by decide)
  rw [decide_eq_false (by simp; omega)] at q1
  have q2 : gEq (st (c :: r)) (st [126, 48]) S = some (bt (decide (c :: r = [126, 48])), S) := g_eqs oc (by decide)
  rw [decide_eq_false (by intro z; have := (List.cons.inj z).1; omega)] at q2
  have f1_ : (if ([st (c :: r)] : List W).length = 1 then frz S.length (callN (n + 1) 3 [st (c :: r)] S) else R.bad) = .ok (bt (P6.plainD (c :: r))) S := fcall_same (k_plain n (by simp) hl2 oc) rfl
  have hnw : P6.numW (c :: r) = (P6.plainD (c :: r) && decide ((c :: r).length ≤ 10) && decide (P6.val (c :: r) ≤ 2147483647)) := by
    exact if_neg (c := c = 126) (by omega)
  rw [hnw]
  by_cases h1 : P6.plainD (c :: r) = true
  · by_cases h2 : 10 < (c :: r).length
    · have h2' : decide ((c :: r).length ≤ 10) = false := decide_eq_false (by omega)
      simp only [fSeq, fAsg, fVar, fC, f1, f2, fL, fAc, fA0, fTest, fAndT, fOrT, fNotT, fTru, fAndV, fOrV, fIfE, fIf, fRet, fAug, fDrop, fSl, fPart, fNoPart, intOf, gtName, R_ok, toS_ok, lift_some, boolW_ok, truR_b, List.getElem?_cons_zero, List.getElem?_cons_succ, List.set_cons_zero, List.set_cons_succ, fCall, l_wave, g_ix0 hl2, q1, Bool.false_eq_true, if_false, f1_, h1, Bool.not_true, g_len hl2, g_gtK 10 k_long, h2, decide_true, if_true, toR, h2', Bool.and_false, Bool.false_and]
    · have h2' : decide ((c :: r).length ≤ 10) = true := decide_eq_true (by omega)
      have f2_ : (if ([st (c :: r)] : List W).length = 1 then frz S.length (callN (n + 1) 5 [st (c :: r)] S) else R.bad) = .ok (nt (P6.val (c :: r))) S := fcall_same (k_told_pos n hf (by omega)) rfl
      have g1 : gLe (.d k_LEAST_NUMBER) (nt (P6.val (c :: r))) S = some (bt (decide (-2147483648 ≤ (P6.val (c :: r) : Int))), S) := rfl
      have e1 : decide (-2147483648 ≤ (P6.val (c :: r) : Int)) = true := decide_eq_true (by omega)
      rw [e1] at g1
      have g2 : gLe (nt (P6.val (c :: r))) (.d k_GREATEST_NUMBER) S = some (bt (decide (P6.val (c :: r) ≤ 2147483647)), S) := g_leK 2147483647 rfl
      simp only [fSeq, fAsg, fVar, fC, f1, f2, fL, fAc, fA0, fTest, fAndT, fOrT, fNotT, fTru, fAndV, fOrV, fIfE, fIf, fRet, fAug, fDrop, fSl, fPart, fNoPart, intOf, gtName, R_ok, toS_ok, lift_some, boolW_ok, truR_b, List.getElem?_cons_zero, List.getElem?_cons_succ, List.set_cons_zero, List.set_cons_succ, fCall, fChain, fNext, l_wave, l_wzero, g_ix0 hl2, q1, Bool.false_eq_true, if_false, f1_, h1, Bool.not_true, g_len hl2, g_gtK 10 k_long, h2, decide_false, q2, f2_, g1, g2, toR, h2', Bool.true_and]
  · rw [Bool.not_eq_true] at h1
    simp only [fSeq, fAsg, fVar, fC, f1, f2, fL, fAc, fA0, fTest, fAndT, fOrT, fNotT, fTru, fAndV, fOrV, fIfE, fIf, fRet, fAug, fDrop, fSl, fPart, fNoPart, intOf, gtName, R_ok, toS_ok, lift_some, boolW_ok, truR_b, List.getElem?_cons_zero, List.getElem?_cons_succ, List.set_cons_zero, List.set_cons_succ, fCall, l_wave, g_ix0 hl2, q1, Bool.false_eq_true, if_false, f1_, h1, Bool.not_false, if_true, toR, Bool.false_and]
end
end VI
set_option Elab.async false
set_option linter.all false
set_option maxRecDepth 100000
namespace VI
open PySem PySem.Spec PyProof.Rows L2

def barredS : List String := ["module", "use", "give", "kind", "let", "rec", "and", "in", "fn", "if", "then", "else", "match", "with", "end", "new", "get", "put", "tell", "true", "false"]
def barred : List (List Nat) := barredS.map fun s => (Str.ofString s).cps.toList
def optD : Option Nat → PyData
  | none => .none
  | some k => .int (k : Int)
theorem barred_tx : barredS.map Str.ofString = barred.map tx := by decide +kernel
theorem c_barred : k_BARRED = .tuple (barred.map fun b => .str (tx b)) := by
  have e : k_BARRED = .tuple ((barredS.map Str.ofString).map PyData.str) := rfl
  rw [e, barred_tx, List.map_map]
  rfl
theorem any_tx (s : List Nat) : ∀ l : List (List Nat), ((l.map fun b => PyData.str (tx b)).any fun d => PyData.eqv d (.str (tx s))) = decide (s ∈ l)
  | [] => rfl
  | b :: l => by
    rw [List.map_cons, List.any_cons, any_tx s l, eqv_tx]
    by_cases h : b = s
    · subst h; simp
    · by_cases h2 : s ∈ l <;> simp [h, h2, Ne.symm h]
theorem flat_tx : ∀ l : List (List Nat), ((l.map fun b => PyData.str (tx b)).all flatD) = true
  | [] => rfl
  | b :: l => by rw [List.map_cons, List.all_cons, flat_tx l]; rfl
theorem g_barred {s : List Nat} {S : Store} : gInA (st s) (.d k_BARRED) S = some (bt (decide (s ∈ barred)), S) := by
  rw [c_barred]
  show (if flatD (.str (tx s)) = true ∧ (barred.map fun b => PyData.str (tx b)).all flatD = true then some (W.d (.bool ((barred.map fun b => PyData.str (tx b)).any fun d => PyData.eqv d (.str (tx s)))), S) else none) = _
  rw [if_pos ⟨rfl, flat_tx _⟩, any_tx]
theorem tw46 {x y : List Nat} (h : 46 ∉ x) : (x ++ 46 :: y).takeWhile (· != 46) = x ∧ (x ++ 46 :: y).dropWhile (· != 46) = 46 :: y := by
  induction x with
  | nil => exact ⟨rfl, rfl⟩
  | cons c x ih =>
    simp only [List.mem_cons, not_or] at h
    have hc : (c != 46) = true := by simpa using Ne.symm h.1
    obtain ⟨i1, i2⟩ := ih h.2
    rw [List.cons_append, List.takeWhile_cons, List.dropWhile_cons, if_pos hc, if_pos hc, i1, i2]
    exact ⟨rfl, rfl⟩
theorem split_w {w : List Nat} (h : 46 ∉ w ∨ ∃ x y, w = x ++ 46 :: y ∧ 46 ∉ x ∧ 46 ∉ y) : Txt.split (tx w) (tx [46]) = (P6.parts w).map tx := by
  have e := SX.split_S (a := w) (b := [46]) (by simp) (by decide)
  have e2 : Txt.split (tx w) (tx [46]) = (TL.spl [46] 0 [] w).map tx := e
  rw [e2]
  congr 1
  unfold P6.parts
  rcases h with h | ⟨x, y, rfl, hx, hy⟩
  · rw [if_neg h, TL.spl_last1 h]
    rfl
  · rw [if_pos (by simp), (tw46 hx).1, (tw46 hx).2]
    have e3 := SX.spl_free (sep := [46]) (p := x) y (by simp) (SX.free_head hx)
    have e4 : x ++ 46 :: y = x ++ ([46] ++ y) := rfl
    rw [e4, e3, TL.spl_last1 hy]
    rfl
theorem g_split {w : List Nat} {S : Store} (h : 46 ∉ w ∨ ∃ x y, w = x ++ 46 :: y ∧ 46 ∉ x ∧ 46 ∉ y) (hl : w.length + 2 ≤ lim) : mSplit (st w) [st [46]] S = some (.d (.list ((P6.parts w).map fun p => .str (tx p))), S) := by
  show (if (tx [46]).length ≠ 0 ∧ (tx w).length + 2 ≤ lim then some (W.d (.list ((Txt.split (tx w) (tx [46])).map PyData.str)), S) else none) = _
  rw [len_tx, len_tx, if_pos ⟨by decide, hl⟩, split_w h, List.map_map]
  rfl
noncomputable abbrev nfBody : FS := (fSeq (fIf (fOrT (fTest (f2 gGt (fL gLen (fAc (fVar 2) fA0)) (fC k_LONGEST_NAME))) (fAndT (fTest (f2 gGt (fVar 1) (fC (.int 0)))) (fTest (f2 gInA (fVar 2) (fC k_BARRED))))) (fRet (fVar 1)) fNext) (fAug 1 (gI2 (fun _ _ => true) fun i j => .int (i + j)) (f2 gAdd (fL gLen (fAc (fVar 2) fA0)) (fC (.int 1)))))
theorem nf_loop {w : List Nat} {S : Store} : ∀ (ps : List (List Nat)) (k : Nat) (o : Option W), (∀ p ∈ ps, p.length ≤ lim) →
    ∃ ρ, forL (fun _ => True) (gtName 2) nfBody (ps.map fun p => st p) [some (st w), some (nt k), o] S = (match P6.nameFault barred ps k with | some j => .ret (nt j) S | none => .next ρ S)
  | [], k, o, _ => ⟨[some (st w), some (nt k), o], by simp only [List.map_nil, forL, if_true, P6.nameFault]⟩
  | p :: ps, k, o, h => by
    obtain ⟨ρ, ih⟩ := nf_loop (w := w) (S := S) ps (k + p.length + 1) (some (st p)) fun q m => h q (by simp [m])
    refine ⟨ρ, ?_⟩
    have hp := h p (by simp)
    rw [List.map_cons]
    unfold P6.nameFault
    by_cases h1 : 20 < p.length
    · simp only [forL, if_true, fSeq, fAsg, fVar, fC, f1, f2, fL, fAc, fA0, fTest, fAndT, fOrT, fNotT, fTru, fAndV, fOrV, fIfE, fIf, fRet, fAug, fDrop, fSl, fPart, fNoPart, intOf, gtName, R_ok, toS_ok, lift_some, boolW_ok, truR_b, List.getElem?_cons_zero, List.getElem?_cons_succ, List.set_cons_zero, List.set_cons_succ, g_len hp, g_gtK 20 k_name, h1, decide_true, true_or]
    · by_cases h2 : 0 < k
      · by_cases h3 : p ∈ barred
        · simp only [forL, if_true, fSeq, fAsg, fVar, fC, f1, f2, fL, fAc, fA0, fTest, fAndT, fOrT, fNotT, fTru, fAndV, fOrV, fIfE, fIf, fRet, fAug, fDrop, fSl, fPart, fNoPart, intOf, gtName, R_ok, toS_ok, lift_some, boolW_ok, truR_b, List.getElem?_cons_zero, List.getElem?_cons_succ, List.set_cons_zero, List.set_cons_succ, g_len hp, g_gtK 20 k_name, g_gt0, h1, h2, h3, decide_false, decide_true, Bool.false_eq_true, if_false, g_barred, false_or, and_self]
        · simp only [forL, if_true, fSeq, fAsg, fVar, fC, f1, f2, fL, fAc, fA0, fTest, fAndT, fOrT, fNotT, fTru, fAndV, fOrV, fIfE, fIf, fRet, fAug, fDrop, fSl, fPart, fNoPart, intOf, gtName, R_ok, toS_ok, lift_some, boolW_ok, truR_b, List.getElem?_cons_zero, List.getElem?_cons_succ, List.set_cons_zero, List.set_cons_succ, g_len hp, g_gtK 20 k_name, g_gt0, h1, h2, h3, decide_false, decide_true, Bool.false_eq_true, if_false, g_barred, false_or, and_false, fNext, g_add1, g_inc]
          exact ih
      · simp only [forL, if_true, fSeq, fAsg, fVar, fC, f1, f2, fL, fAc, fA0, fTest, fAndT, fOrT, fNotT, fTru, fAndV, fOrV, fIfE, fIf, fRet, fAug, fDrop, fSl, fPart, fNoPart, intOf, gtName, R_ok, toS_ok, lift_some, boolW_ok, truR_b, List.getElem?_cons_zero, List.getElem?_cons_succ, List.set_cons_zero, List.set_cons_succ, g_len hp, g_gtK 20 k_name, g_gt0, h1, h2, decide_false, Bool.false_eq_true, if_false, false_or, false_and, fNext, g_add1, g_inc]
        exact ih
section
variable {w : List Nat} {S : Store}
/-- name_fault -/
theorem k_name_fault (n : Nat) (h : 46 ∉ w ∨ ∃ x y, w = x ++ 46 :: y ∧ 46 ∉ x ∧ 46 ∉ y) (hl : w.length < 900000) : callN (n + 1) 6 [st w] S = .ok (.d (optD (P6.nameFault barred (P6.parts w) 0))) S := by
  show toR (b6 (callN n) [some (st w), none, none] S) = _
  unfold b6
  have hl2 : w.length + 2 ≤ lim := by show w.length + 2 ≤ 16777216; omega
  have hp : ∀ p ∈ P6.parts w, p.length ≤ lim := fun p m => by
    show p.length ≤ 16777216
    unfold P6.parts at m
    split at m
    · rename_i h46
      have h1 : (w.takeWhile (· != 46)).length ≤ w.length := (List.takeWhile_prefix _).length_le
      have h2 : (w.dropWhile (· != 46)).length ≤ w.length := (List.dropWhile_suffix _).length_le
      rcases List.mem_cons.mp m with rfl | m
      · omega
      · rw [List.mem_singleton.mp m, List.length_drop]
        omega
    · rw [List.mem_singleton.mp m]
      omega
  obtain ⟨ρ, lp⟩ := nf_loop (w := w) (S := S) (P6.parts w) 0 none hp
  have lp2 : forL (fun _ => True) (gtName 2) nfBody (((P6.parts w).map fun p => PyData.str (tx p)).map W.d) [some (st w), some (.d (.int 0)), none] S = (match P6.nameFault barred (P6.parts w) 0 with | some j => .ret (nt j) S | none => .next ρ S) := by
    rw [List.map_map]
    exact lp
  have hs : seqR (wkS (.d (.list ((P6.parts w).map fun p => .str (tx p)))) S) S = .ok ⟨((P6.parts w).map fun p => PyData.str (tx p)).map W.d, fun _ => True⟩ S := rfl
  simp only [fSeq, fAsg, fVar, fC, f1, f2, fL, fAc, fA0, fTest, fAndT, fOrT, fNotT, fTru, fAndV, fOrV, fIfE, fIf, fRet, fAug, fDrop, fSl, fPart, fNoPart, intOf, gtName, R_ok, toS_ok, lift_some, boolW_ok, truR_b, List.getElem?_cons_zero, List.getElem?_cons_succ, List.set_cons_zero, List.set_cons_succ, fFor, fItS, fMethS, l_dot, g_split h hl2, hs, lp2]
  cases P6.nameFault barred (P6.parts w) 0 with
  | some j => rfl
  | none => rfl
end
end VI
set_option Elab.async false
set_option linter.all false
set_option maxRecDepth 100000
namespace VI
open PySem PySem.Spec PyProof.Rows L2

theorem g_addMost {S : Store} : gAdd (.d k_MOST_DIGITS) (.d (.int 1)) S = some (nt 10, S) := rfl
section
variable {w : List Nat} {S : Store}
/-- fault_in -/
theorem k_fault_in (n : Nat) (h : P6.Wd w) (hl : w.length < 900000) (hk : okc w = true) : callN (n + 3) 7 [st w] S = .ok (.d (optD (P6.pFault barred w))) S := by
  show toR (b7 (callN (n + 2)) [some (st w)] S) = _
  unfold b7
  cases w with
  | nil =>
    have q0 : gEq (st []) (st []) S = some (bt true, S) := g_eqs (by decide) (by decide)
    simp only [fSeq, fAsg, fVar, fC, f1, f2, fL, fAc, fA0, fTest, fAndT, fOrT, fNotT, fTru, fAndV, fOrV, fIfE, fIf, fRet, fAug, fDrop, fSl, fPart, fNoPart, intOf, gtName, R_ok, toS_ok, lift_some, boolW_ok, truR_b, List.getElem?_cons_zero, List.getElem?_cons_succ, List.set_cons_zero, List.set_cons_succ, l_nil, q0, if_true, toR, P6.pFault, optD]
    rfl
  | cons c r =>
    have hl2 : (c :: r).length ≤ lim := Nat.le_trans (Nat.le_of_lt hl) (by decide)
    have oc := okc_mem hk (c := c) (by simp)
    have q0 : gEq (st (c :: r)) (st []) S = some (bt false, S) := by
      rw [g_eqs hk (by decide), decide_eq_false (by simp)]
    have gL : gInA (st [c]) (.d k_LETTERS) S = some (bt (P6.isL c), S) := c_lets ▸ g_in
    have gF : gInA (st [c]) (.d k_DIGITS) S = some (bt (P6.isF c), S) := c_figs ▸ g_in
    have q1 : gEq (st [c]) (st [63]) S = some (bt (decide (c = 63)), S) := by rw [g_eqs oc (by decide)]; simp
    have q2 : gEq (st [c]) (st [126]) S = some (bt (decide (c = 126)), S) := by rw [g_eqs oc (by decide)]; simp
    by_cases hL : P6.isL c = true
    · have f1_ : (if ([st (c :: r)] : List W).length = 1 then frz S.length (callN (n + 2) 6 [st (c :: r)] S) else R.bad) = .ok (.d (optD (P6.nameFault barred (P6.parts (c :: r)) 0))) S := fcall_same (k_name_fault (n + 1) (h.one c r rfl hL) hl) rfl
      have hp : P6.pFault barred (c :: r) = P6.nameFault barred (P6.parts (c :: r)) 0 := by simp only [P6.pFault, hL, if_true]
      rw [hp]
      simp only [fSeq, fAsg, fVar, fC, f1, f2, fL, fAc, fA0, fTest, fAndT, fOrT, fNotT, fTru, fAndV, fOrV, fIfE, fIf, fRet, fAug, fDrop, fSl, fPart, fNoPart, intOf, gtName, R_ok, toS_ok, lift_some, boolW_ok, truR_b, List.getElem?_cons_zero, List.getElem?_cons_succ, List.set_cons_zero, List.set_cons_succ, fCall, fNext, l_nil, q0, Bool.false_eq_true, if_false, g_ix0 hl2, gL, hL, if_true, f1_, toR]
    · rw [Bool.not_eq_true] at hL
      by_cases h63 : c = 63
      · subst h63
        obtain ⟨hn, hf⟩ := h.var 63 r rfl (.inr rfl)
        have hl3 : r.length ≤ lim := by
          have := hl2
          rw [List.length_cons] at this
          omega
        have f1_ : (if ([st r] : List W).length = 1 then frz S.length (callN (n + 2) 3 [st r] S) else R.bad) = .ok (bt (P6.plainD r)) S := fcall_same (k_plain (n + 1) hn hl3 (okc_figs hf)) rfl
        have gle : gLe (nt (63 :: r).length) (nt 10) S = some (bt (decide ((63 :: r).length ≤ 10)), S) := g_le
        rw [P6.pf63]
        by_cases h9 : r.length ≤ 9
        · have e9 : decide ((63 :: r).length ≤ 10) = true := decide_eq_true (by rw [List.length_cons]; omega)
          rw [e9] at gle
          by_cases hp : P6.plainD r = true
          · rw [if_pos ⟨h9, hp⟩]
            simp only [fSeq, fAsg, fVar, fC, f1, f2, fL, fAc, fA0, fTest, fAndT, fOrT, fNotT, fTru, fAndV, fOrV, fIfE, fIf, fRet, fAug, fDrop, fSl, fPart, fNoPart, intOf, gtName, R_ok, toS_ok, lift_some, boolW_ok, truR_b, List.getElem?_cons_zero, List.getElem?_cons_succ, List.set_cons_zero, List.set_cons_succ, fCall, fNext, l_nil, l_ask, q0, Bool.false_eq_true, if_false, g_ix0 hl2, gL, hL, q1, decide_true, if_true, g_len hl2, g_addMost, gle, g_sf1 hl2, f1_, hp, toR, optD]
          · rw [if_neg (fun z => hp z.2)]
            rw [Bool.not_eq_true] at hp
            simp only [fSeq, fAsg, fVar, fC, f1, f2, fL, fAc, fA0, fTest, fAndT, fOrT, fNotT, fTru, fAndV, fOrV, fIfE, fIf, fRet, fAug, fDrop, fSl, fPart, fNoPart, intOf, gtName, R_ok, toS_ok, lift_some, boolW_ok, truR_b, List.getElem?_cons_zero, List.getElem?_cons_succ, List.set_cons_zero, List.set_cons_succ, fCall, fNext, l_nil, l_ask, q0, Bool.false_eq_true, if_false, g_ix0 hl2, gL, hL, q1, decide_true, if_true, g_len hl2, g_addMost, gle, g_sf1 hl2, f1_, hp, toR, optD]
            rfl
        · have e9 : decide ((63 :: r).length ≤ 10) = false := decide_eq_false (by rw [List.length_cons]; omega)
          rw [e9] at gle
          rw [if_neg (fun z => h9 z.1)]
          simp only [fSeq, fAsg, fVar, fC, f1, f2, fL, fAc, fA0, fTest, fAndT, fOrT, fNotT, fTru, fAndV, fOrV, fIfE, fIf, fRet, fAug, fDrop, fSl, fPart, fNoPart, intOf, gtName, R_ok, toS_ok, lift_some, boolW_ok, truR_b, List.getElem?_cons_zero, List.getElem?_cons_succ, List.set_cons_zero, List.set_cons_succ, fCall, fNext, l_nil, l_ask, q0, Bool.false_eq_true, if_false, g_ix0 hl2, gL, hL, q1, decide_true, if_true, g_len hl2, g_addMost, gle, toR, optD]
          rfl
      · have e63 : decide (c = 63) = false := decide_eq_false h63
        rw [e63] at q1
        by_cases h126 : c = 126
        · subst h126
          obtain ⟨hn, hf⟩ := h.var 126 r rfl (.inl rfl)
          have f1_ : (if ([st (126 :: r)] : List W).length = 1 then frz S.length (callN (n + 2) 4 [st (126 :: r)] S) else R.bad) = .ok (bt (P6.numW (126 :: r))) S := fcall_same (k_num_neg n hf hn (by rw [List.length_cons] at hl; omega)) rfl
          rw [P6.pf126]
          by_cases hp : P6.numW (126 :: r) = true
          · simp only [fSeq, fAsg, fVar, fC, f1, f2, fL, fAc, fA0, fTest, fAndT, fOrT, fNotT, fTru, fAndV, fOrV, fIfE, fIf, fRet, fAug, fDrop, fSl, fPart, fNoPart, intOf, gtName, R_ok, toS_ok, lift_some, boolW_ok, truR_b, List.getElem?_cons_zero, List.getElem?_cons_succ, List.set_cons_zero, List.set_cons_succ, fCall, fNext, l_nil, l_ask, l_wave, q0, Bool.false_eq_true, if_false, g_ix0 hl2, gL, hL, q1, q2, decide_true, if_true, f1_, hp, toR, optD]
          · rw [Bool.not_eq_true] at hp
            simp only [fSeq, fAsg, fVar, fC, f1, f2, fL, fAc, fA0, fTest, fAndT, fOrT, fNotT, fTru, fAndV, fOrV, fIfE, fIf, fRet, fAug, fDrop, fSl, fPart, fNoPart, intOf, gtName, R_ok, toS_ok, lift_some, boolW_ok, truR_b, List.getElem?_cons_zero, List.getElem?_cons_succ, List.set_cons_zero, List.set_cons_succ, fCall, fNext, l_nil, l_ask, l_wave, q0, Bool.false_eq_true, if_false, g_ix0 hl2, gL, hL, q1, q2, decide_true, if_true, f1_, hp, toR, optD]
            rfl
        · have e126 : decide (c = 126) = false := decide_eq_false h126
          rw [e126] at q2
          by_cases hF : P6.isF c = true
          · have hf : ∀ d ∈ c :: r, P6.isF d = true := fun d m => by
              rcases List.mem_cons.mp m with rfl | m
              · exact hF
              · exact h.fig c r rfl hF d m
            have f1_ : (if ([st (c :: r)] : List W).length = 1 then frz S.length (callN (n + 2) 4 [st (c :: r)] S) else R.bad) = .ok (bt (P6.numW (c :: r))) S := fcall_same (k_num_pos n hf hl) rfl
            rw [P6.pfF hL h63 hF]
            by_cases hp : P6.numW (c :: r) = true
            · simp only [fSeq, fAsg, fVar, fC, f1, f2, fL, fAc, fA0, fTest, fAndT, fOrT, fNotT, fTru, fAndV, fOrV, fIfE, fIf, fRet, fAug, fDrop, fSl, fPart, fNoPart, intOf, gtName, R_ok, toS_ok, lift_some, boolW_ok, truR_b, List.getElem?_cons_zero, List.getElem?_cons_succ, List.set_cons_zero, List.set_cons_succ, fCall, fNext, l_nil, l_ask, l_wave, q0, Bool.false_eq_true, if_false, g_ix0 hl2, gL, hL, q1, q2, gF, hF, if_true, f1_, hp, toR, optD]
            · rw [Bool.not_eq_true] at hp
              simp only [fSeq, fAsg, fVar, fC, f1, f2, fL, fAc, fA0, fTest, fAndT, fOrT, fNotT, fTru, fAndV, fOrV, fIfE, fIf, fRet, fAug, fDrop, fSl, fPart, fNoPart, intOf, gtName, R_ok, toS_ok, lift_some, boolW_ok, truR_b, List.getElem?_cons_zero, List.getElem?_cons_succ, List.set_cons_zero, List.set_cons_succ, fCall, fNext, l_nil, l_ask, l_wave, q0, Bool.false_eq_true, if_false, g_ix0 hl2, gL, hL, q1, q2, gF, hF, if_true, f1_, hp, toR, optD]
              rfl
          · rw [Bool.not_eq_true] at hF
            have hp : P6.pFault barred (c :: r) = none := by simp [P6.pFault, hL, h63, h126, hF]
            rw [hp]
            simp only [fSeq, fAsg, fVar, fC, f1, f2, fL, fAc, fA0, fTest, fAndT, fOrT, fNotT, fTru, fAndV, fOrV, fIfE, fIf, fRet, fAug, fDrop, fSl, fPart, fNoPart, intOf, gtName, R_ok, toS_ok, lift_some, boolW_ok, truR_b, List.getElem?_cons_zero, List.getElem?_cons_succ, List.set_cons_zero, List.set_cons_succ, fCall, fNext, l_nil, l_ask, l_wave, q0, Bool.false_eq_true, if_false, g_ix0 hl2, gL, hL, q1, q2, gF, hF, toR, optD]
end

/-! the law's own -/
theorem l_small : Str.ofString "abcdefghijklmnopqrstuvwxyz" = tx P6.low := by decide +kernel
theorem l_great : Str.ofString "ABCDEFGHIJKLMNOPQRSTUVWXYZ" = tx P6.great := by decide +kernel
theorem l_figs : Str.ofString "0123456789" = tx P6.figs := by decide +kernel
theorem l_under : Str.ofString "_" = tx [95] := by decide +kernel
theorem l_two : Str.ofString "~?" = tx [126, 63] := by decide +kernel
theorem l_sigs : Str.ofString "-=<+*(){},.|:_" = tx P6.sigs := by decide +kernel
section
variable {t sg : List Nat} {a c : Nat} {r : List Nat} {S : Store}
theorem k_small (n : Nat) : callN (n + 1) 14 [] S = .ok (st P6.low) S := by
  show toR (b14 (callN n) [] S) = _
  unfold b14
  simp only [fSeq, fAsg, fVar, fC, f1, f2, fL, fAc, fA0, fTest, fAndT, fOrT, fNotT, fTru, fAndV, fOrV, fIfE, fIf, fRet, fAug, fDrop, fSl, fPart, fNoPart, intOf, gtName, R_ok, toS_ok, lift_some, boolW_ok, truR_b, List.getElem?_cons_zero, List.getElem?_cons_succ, List.set_cons_zero, List.set_cons_succ, l_small, toR]
theorem k_great (n : Nat) : callN (n + 1) 15 [] S = .ok (st P6.great) S := by
  show toR (b15 (callN n) [] S) = _
  unfold b15
  simp only [fSeq, fAsg, fVar, fC, f1, f2, fL, fAc, fA0, fTest, fAndT, fOrT, fNotT, fTru, fAndV, fOrV, fIfE, fIf, fRet, fAug, fDrop, fSl, fPart, fNoPart, intOf, gtName, R_ok, toS_ok, lift_some, boolW_ok, truR_b, List.getElem?_cons_zero, List.getElem?_cons_succ, List.set_cons_zero, List.set_cons_succ, l_great, toR]
theorem k_figs (n : Nat) : callN (n + 1) 16 [] S = .ok (st P6.figs) S := by
  show toR (b16 (callN n) [] S) = _
  unfold b16
  simp only [fSeq, fAsg, fVar, fC, f1, f2, fL, fAc, fA0, fTest, fAndT, fOrT, fNotT, fTru, fAndV, fOrV, fIfE, fIf, fRet, fAug, fDrop, fSl, fPart, fNoPart, intOf, gtName, R_ok, toS_ok, lift_some, boolW_ok, truR_b, List.getElem?_cons_zero, List.getElem?_cons_succ, List.set_cons_zero, List.set_cons_succ, l_figs, toR]
theorem k_barred (n : Nat) : callN (n + 1) 13 [] S = .ok (.d (.list (barred.map fun b => .str (tx b)))) S := by
  have e : callN (n + 1) 13 [] S = .ok (.d (.list ((barredS.map Str.ofString).map PyData.str))) S := rfl
  rw [e, barred_tx, List.map_map]
  rfl
/-- _law_run_from -/
theorem k_run_from (n : Nat) (hl : t.length < 900000) : callN (n + 1) 19 [st t, nt a, st sg] S = .ok (st ((t.drop a).takeWhile fun c => decide (c ∈ sg))) S := by
  have hl2 : t.length ≤ lim := Nat.le_trans (Nat.le_of_lt hl) (by decide)
  show toR (b19 (callN n) [some (st t), some (nt a), some (st sg), none] S) = _
  unfold b19
  have w := run_while (sg := sg) (a := a) (S := S) hl2 t.length a 1000000 (by omega) (by omega)
  simp only [fSeq, fAsg, fVar, fC, f1, f2, fL, fAc, fA0, fTest, fAndT, fOrT, fNotT, fTru, fAndV, fOrV, fIfE, fIf, fRet, fAug, fDrop, fSl, fPart, fNoPart, intOf, gtName, R_ok, toS_ok, lift_some, boolW_ok, truR_b, List.getElem?_cons_zero, List.getElem?_cons_succ, List.set_cons_zero, List.set_cons_succ, w, g_sl hl2, toR, Nat.add_sub_cancel_left, P6.take_run]
end
end VI
set_option Elab.async false
set_option linter.all false
set_option maxRecDepth 100000
namespace VI
open PySem PySem.Spec PyProof.Rows L2

def encW : Option (List Nat) × Nat → PyData
  | (some w, _) => .tuple [.str (tx w), .none]
  | (none, k) => .tuple [.none, .int (k : Int)]
theorem g_tup2 {x y : PyData} {S : Store} : gTup [.d x, .d y] S = some (.d (.tuple [x, y]), S) := rfl
theorem g_tup3 {x y z : PyData} {S : Store} : gTup [.d x, .d y, .d z] S = some (.d (.tuple [x, y, z]), S) := rfl
theorem g_barredL {s : List Nat} {S : Store} : gInA (st s) (.d (.list (barred.map fun b => .str (tx b)))) S = some (bt (decide (s ∈ barred)), S) := by
  show (if flatD (.str (tx s)) = true ∧ (barred.map fun b => PyData.str (tx b)).all flatD = true then some (W.d (.bool ((barred.map fun b => PyData.str (tx b)).any fun d => PyData.eqv d (.str (tx s)))), S) else none) = _
  rw [if_pos ⟨rfl, flat_tx _⟩, any_tx]
theorem g_tupS {z : List Nat} {S : Store} (hl : z.length ≤ lim) : gTupleA [st z] S = some (.d (.tuple ((z.map fun c => [c]).map fun b => .str (tx b))), S) := by
  show (if (tx z).length ≤ lim then some (W.d (.tuple (z.map fun c => PyData.str ⟨#[c]⟩)), S) else none) = _
  rw [len_tx, if_pos hl, List.map_map]
  rfl
theorem g_inT {s : List Nat} {z : List (List Nat)} {S : Store} : gInA (st s) (.d (.tuple (z.map fun b => .str (tx b)))) S = some (bt (decide (s ∈ z)), S) := by
  show (if flatD (.str (tx s)) = true ∧ (z.map fun b => PyData.str (tx b)).all flatD = true then some (W.d (.bool ((z.map fun b => PyData.str (tx b)).any fun d => PyData.eqv d (.str (tx s)))), S) else none) = _
  rw [if_pos ⟨rfl, flat_tx _⟩, any_tx]
def isLo (o : Option Nat) : Bool := match o with
  | some d => P6.isL d
  | none => false
theorem second_at2 {t : List Nat} {a : Nat} (n : Nat) : P6.second (t.drop a) n = (decide ((t.drop (a + n)).take 1 = [46]) && isLo t[a + n + 1]?) := second_at n
theorem one_in {t : List Nat} {i : Nat} : decide ((t.drop i).take 1 ∈ P6.lets.map fun c => [c]) = isLo t[i]? := by
  unfold isLo
  by_cases h : i < t.length
  · rw [List.drop_eq_getElem_cons h, List.getElem?_eq_getElem h]
    show decide ([t[i]] ∈ P6.lets.map fun c => [c]) = decide (t[i] ∈ P6.lets)
    by_cases z : t[i] ∈ P6.lets
    · rw [decide_eq_true z, decide_eq_true (List.mem_map.mpr ⟨_, z, rfl⟩)]
    · rw [decide_eq_false z]
      refine decide_eq_false fun m => ?_
      obtain ⟨d, m1, m2⟩ := List.mem_map.mp m
      exact z ((List.cons.inj m2).1 ▸ m1)
  · rw [List.drop_of_length_le (by omega), List.getElem?_eq_none (by omega)]
    refine decide_eq_false fun m => ?_
    obtain ⟨d, m1, m2⟩ := List.mem_map.mp m
    cases m2
theorem sig_lets : P6.low ++ P6.great = P6.lets := rfl
theorem sig_nams : P6.lets ++ P6.figs ++ [95] = P6.nams := by decide
theorem g_pow12 {S : Store} : gPow (.d (.int 10)) (.d (.int 12)) S = some (nt 1000000000000, S) := rfl
theorem g_b2i (b : Bool) {S : Store} : gIntA [bt b] S = some (.d (.int (if b then 1 else 0)), S) := rfl
theorem g_lt12 {i : Nat} {S : Store} : gLt (nt i) (.d (.int 12)) S = some (bt (decide (i < 12)), S) := g_lt (j := 12)
theorem g_gt20 {i : Nat} {S : Store} : gGt (nt i) (.d (.int 20)) S = some (bt (decide (20 < i)), S) := g_gt (j := 20)
theorem g_gt9 {i : Nat} {S : Store} : gGt (nt i) (.d (.int 9)) S = some (bt (decide (9 < i)), S) := g_gt (j := 9)
theorem g_gt1 {i : Nat} {S : Store} : gGt (nt i) (.d (.int 1)) S = some (bt (decide (1 < i)), S) := g_gt (j := 1)
section
variable {t : List Nat} {a c : Nat} {r : List Nat} {S : Store}
theorem tl_le (p : Nat → Bool) (l : List Nat) : (l.takeWhile p).length ≤ l.length := (List.takeWhile_prefix p).length_le
/-- the ahead of _law_word_at -/
theorem wa_head (n : Nat) (q : FS) : (fSeq (fAsg (f2 gAdd (fCall 0 (callN (n + 2) 14) fA0) (fCall 0 (callN (n + 2) 15) fA0)) (gtName 2)) (fSeq (fAsg (f2 gAdd (f2 gAdd (fVar 2) (fCall 0 (callN (n + 2) 16) fA0)) (fC (.str "_"))) (gtName 3)) q)) [some (st t), some (nt a), none, none, none, none, none, none, none, none] S
    = q [some (st t), some (nt a), some (st P6.lets), some (st P6.nams), none, none, none, none, none, none] S := by
  have f1_ : (if ([] : List W).length = 0 then frz S.length (callN (n + 2) 14 [] S) else R.bad) = .ok (st P6.low) S := fcall_same (k_small (n + 1)) rfl
  have f2_ : (if ([] : List W).length = 0 then frz S.length (callN (n + 2) 15 [] S) else R.bad) = .ok (st P6.great) S := fcall_same (k_great (n + 1)) rfl
  have f3_ : (if ([] : List W).length = 0 then frz S.length (callN (n + 2) 16 [] S) else R.bad) = .ok (st P6.figs) S := fcall_same (k_figs (n + 1)) rfl
  have c1 : gAdd (st P6.low) (st P6.great) S = some (st P6.lets, S) := g_cat (by decide)
  have c2 : gAdd (st P6.lets) (st P6.figs) S = some (st (P6.lets ++ P6.figs), S) := g_cat (by decide)
  have c3 : gAdd (st (P6.lets ++ P6.figs)) (st [95]) S = some (st P6.nams, S) := by rw [g_cat (by decide), sig_nams]
  simp only [fSeq, fAsg, fVar, fC, f1, f2, fL, fAc, fA0, fTest, fAndT, fOrT, fNotT, fTru, fAndV, fOrV, fIfE, fIf, fRet, fAug, fDrop, fSl, fPart, fNoPart, intOf, gtName, R_ok, toS_ok, lift_some, boolW_ok, truR_b, List.getElem?_cons_zero, List.getElem?_cons_succ, List.set_cons_zero, List.set_cons_succ, fCall, f1_, f2_, f3_, l_under, c1, c2, c3]
theorem wa_name (n : Nat) (h : t.drop a = c :: r) (hL : P6.isL c = true) (hl : t.length < 900000) (hk : okc t = true) : callN (n + 3) 20 [st t, nt a] S = .ok (.d (encW (P6.lWord barred (c :: r)))) S := by
  obtain ⟨hc, ha, hr, hm⟩ := drop_at h
  have hl2 : t.length ≤ lim := Nat.le_trans (Nat.le_of_lt hl) (by decide)
  show toR (b20 (callN (n + 2)) [some (st t), some (nt a), none, none, none, none, none, none, none, none] S) = _
  unfold b20
  rw [wa_head]
  have gL : gInA (st [c]) (st P6.lets) S = some (bt (P6.isL c), S) := g_in
  have gU : gInA (st [c]) (st P6.great) S = some (bt (P6.isU c), S) := g_in
  have f15 : (if ([] : List W).length = 0 then frz S.length (callN (n + 2) 15 [] S) else R.bad) = .ok (st P6.great) S := fcall_same (k_great (n + 1)) rfl
  have f13 : (if ([] : List W).length = 0 then frz S.length (callN (n + 2) 13 [] S) else R.bad) = .ok (.d (.list (barred.map fun b => .str (tx b)))) S := fcall_same (k_barred (n + 1)) rfl
  rw [← h]
  have hlw : P6.lWord barred (t.drop a) = if 20 < ((t.drop a).takeWhile P6.isN).length then (none, 0)
      else if (P6.isU c && P6.second (t.drop a) ((t.drop a).takeWhile P6.isN).length) = true then
        (if 20 < ((t.drop (a + ((t.drop a).takeWhile P6.isN).length + 1)).takeWhile P6.isN).length ∨ ((t.drop (a + ((t.drop a).takeWhile P6.isN).length + 1)).takeWhile P6.isN) ∈ barred then (none, ((t.drop a).takeWhile P6.isN).length + 1)
        else (some ((t.drop a).takeWhile P6.isN ++ 46 :: ((t.drop (a + ((t.drop a).takeWhile P6.isN).length + 1)).takeWhile P6.isN)), 0))
      else (some ((t.drop a).takeWhile P6.isN), 0) := by
    rw [Nat.add_assoc, ← List.drop_drop, h]
    simp only [P6.lWord, hL, if_true]
  rw [hlw, second_at2]
  have hwl : ((t.drop a).takeWhile P6.isN).length ≤ t.length := by
    have := tl_le P6.isN (t.drop a)
    rw [List.length_drop] at this
    omega
  have f19 : (if ([st t, nt a, st P6.nams] : List W).length = 3 then frz S.length (callN (n + 2) 19 [st t, nt a, st P6.nams] S) else R.bad) = .ok (st ((t.drop a).takeWhile P6.isN)) S := fcall_same (k_run_from (n + 1) hl) rfl
  generalize (t.drop a).takeWhile P6.isN = w at hwl f19 ⊢
  have hw2 : w.length ≤ lim := Nat.le_trans hwl hl2
  have hol : ((t.drop (a + w.length + 1)).takeWhile P6.isN).length ≤ t.length := by
    have := tl_le P6.isN (t.drop (a + w.length + 1))
    rw [List.length_drop] at this
    omega
  have f19b : (if ([st t, nt (a + w.length + 1), st P6.nams] : List W).length = 3 then frz S.length (callN (n + 2) 19 [st t, nt (a + w.length + 1), st P6.nams] S) else R.bad) = .ok (st ((t.drop (a + w.length + 1)).takeWhile P6.isN)) S := fcall_same (k_run_from (n + 1) hl) rfl
  generalize (t.drop (a + w.length + 1)).takeWhile P6.isN = o at hol f19b ⊢
  have ho2 : o.length ≤ lim := Nat.le_trans hol hl2
  have q1 : gEq (st ((t.drop (a + w.length)).take 1)) (st [46]) S = some (bt (decide ((t.drop (a + w.length)).take 1 = [46])), S) := g_eqs (okc_cut hk _ _) (by decide)
  have q2 : gSlA (st t) (some ((a + w.length + 1 : Nat) : Int)) (some ((a + w.length + 2 : Nat) : Int)) S = some (st ((t.drop (a + w.length + 1)).take 1), S) := by
    rw [g_sl hl2, show a + w.length + 2 - (a + w.length + 1) = 1 by omega]
  have q3 : gInA (st ((t.drop (a + w.length + 1)).take 1)) (.d (.tuple ((P6.lets.map fun c => [c]).map fun b => .str (tx b)))) S = some (bt (isLo t[a + w.length + 1]?), S) := by rw [g_inT, one_in]
  generalize isLo t[a + w.length + 1]? = lb at q3 ⊢
  generalize decide ((t.drop (a + w.length)).take 1 = [46]) = db at q1 ⊢
  have cat1 : gAdd (st w) (st [46]) S = some (st (w ++ [46]), S) := g_cat (by show w.length + 1 ≤ 16777216; omega)
  have cat2 : gAdd (st (w ++ [46])) (st o) S = some (st (w ++ 46 :: o), S) := by
    rw [g_cat (by rw [List.length_append]; show w.length + 1 + o.length ≤ 16777216; omega), List.append_assoc]
    rfl
  have hb : gInA (st o) (.d (.list (barred.map fun b => .str (tx b)))) S = some (bt (decide (o ∈ barred)), S) := g_barredL
  by_cases h1 : 20 < w.length
  · simp only [fSeq, fAsg, fVar, fC, f1, f2, fL, fAc, fA0, fTest, fAndT, fOrT, fNotT, fTru, fAndV, fOrV, fIfE, fIf, fRet, fAug, fDrop, fSl, fPart, fNoPart, intOf, gtName, R_ok, toS_ok, lift_some, boolW_ok, truR_b, List.getElem?_cons_zero, List.getElem?_cons_succ, List.set_cons_zero, List.set_cons_succ, fCall, g_ix hc hl2, gL, hL, if_true, f19, g_len hw2, g_gt20, h1, decide_true, g_tup2, toR, encW]
    rfl
  · by_cases h2 : P6.isU c = true
    · cases db with
      | false => simp only [fSeq, fAsg, fVar, fC, f1, f2, fL, fAc, fA0, fTest, fAndT, fOrT, fNotT, fTru, fAndV, fOrV, fIfE, fIf, fRet, fAug, fDrop, fSl, fPart, fNoPart, intOf, gtName, R_ok, toS_ok, lift_some, boolW_ok, truR_b, List.getElem?_cons_zero, List.getElem?_cons_succ, List.set_cons_zero, List.set_cons_succ, fCall, fNext, g_ix hc hl2, gL, gU, hL, if_true, f19, f15, g_len hw2, g_gt20, h1, h2, decide_false, Bool.false_eq_true, if_false, g_add, g_add1, g_sl1 hl2, l_dot, q1, g_tup2, toR, encW, Bool.false_and, Bool.and_false]
      | true =>
        cases lb with
        | false => simp only [fSeq, fAsg, fVar, fC, f1, f2, fL, fAc, fA0, fTest, fAndT, fOrT, fNotT, fTru, fAndV, fOrV, fIfE, fIf, fRet, fAug, fDrop, fSl, fPart, fNoPart, intOf, gtName, R_ok, toS_ok, lift_some, boolW_ok, truR_b, List.getElem?_cons_zero, List.getElem?_cons_succ, List.set_cons_zero, List.set_cons_succ, fCall, fNext, g_ix hc hl2, gL, gU, hL, if_true, f19, f15, g_len hw2, g_gt20, h1, h2, decide_false, Bool.false_eq_true, if_false, g_add, g_add1, g_add2, g_sl1 hl2, l_dot, q1, q2, q3, g_tupS (z := P6.lets) (by decide), g_tup2, toR, encW, Bool.and_false]
        | true =>
          by_cases h3 : 20 < o.length
          · simp only [fSeq, fAsg, fVar, fC, f1, f2, fL, fAc, fA0, fTest, fAndT, fOrT, fNotT, fTru, fAndV, fOrV, fIfE, fIf, fRet, fAug, fDrop, fSl, fPart, fNoPart, intOf, gtName, R_ok, toS_ok, lift_some, boolW_ok, truR_b, List.getElem?_cons_zero, List.getElem?_cons_succ, List.set_cons_zero, List.set_cons_succ, fCall, fNext, g_ix hc hl2, gL, gU, hL, if_true, f19, f19b, f15, g_len hw2, g_len ho2, g_gt20, h1, h2, h3, decide_false, decide_true, Bool.false_eq_true, if_false, g_add, g_add1, g_add2, g_sl1 hl2, l_dot, q1, q2, q3, g_tupS (z := P6.lets) (by decide), g_tup2, toR, encW, Bool.and_self, true_or]
          · by_cases h4 : o ∈ barred
            · simp only [fSeq, fAsg, fVar, fC, f1, f2, fL, fAc, fA0, fTest, fAndT, fOrT, fNotT, fTru, fAndV, fOrV, fIfE, fIf, fRet, fAug, fDrop, fSl, fPart, fNoPart, intOf, gtName, R_ok, toS_ok, lift_some, boolW_ok, truR_b, List.getElem?_cons_zero, List.getElem?_cons_succ, List.set_cons_zero, List.set_cons_succ, fCall, fNext, g_ix hc hl2, gL, gU, hL, if_true, f19, f19b, f15, f13, g_len hw2, g_len ho2, g_gt20, h1, h2, h3, h4, hb, decide_false, decide_true, Bool.false_eq_true, if_false, g_add, g_add1, g_add2, g_sl1 hl2, l_dot, q1, q2, q3, g_tupS (z := P6.lets) (by decide), g_tup2, toR, encW, Bool.and_self, or_true]
            · simp only [fSeq, fAsg, fVar, fC, f1, f2, fL, fAc, fA0, fTest, fAndT, fOrT, fNotT, fTru, fAndV, fOrV, fIfE, fIf, fRet, fAug, fDrop, fSl, fPart, fNoPart, intOf, gtName, R_ok, toS_ok, lift_some, boolW_ok, truR_b, List.getElem?_cons_zero, List.getElem?_cons_succ, List.set_cons_zero, List.set_cons_succ, fCall, fNext, g_ix hc hl2, gL, gU, hL, if_true, f19, f19b, f15, f13, g_len hw2, g_len ho2, g_gt20, h1, h2, h3, h4, hb, decide_false, decide_true, Bool.false_eq_true, if_false, g_add, g_add1, g_add2, g_sl1 hl2, l_dot, q1, q2, q3, g_tupS (z := P6.lets) (by decide), g_tup2, cat1, cat2, toR, encW, Bool.and_self, or_self]
    · rw [Bool.not_eq_true] at h2
      simp only [fSeq, fAsg, fVar, fC, f1, f2, fL, fAc, fA0, fTest, fAndT, fOrT, fNotT, fTru, fAndV, fOrV, fIfE, fIf, fRet, fAug, fDrop, fSl, fPart, fNoPart, intOf, gtName, R_ok, toS_ok, lift_some, boolW_ok, truR_b, List.getElem?_cons_zero, List.getElem?_cons_succ, List.set_cons_zero, List.set_cons_succ, fCall, fNext, g_ix hc hl2, gL, gU, hL, if_true, f19, f15, g_len hw2, g_gt20, h1, h2, decide_false, Bool.false_eq_true, if_false, g_add, g_tup2, toR, encW, Bool.false_and]
end
end VI
set_option Elab.async false
set_option linter.all false
set_option maxRecDepth 100000
namespace VI
open PySem PySem.Spec PyProof.Rows L2

section
variable {t : List Nat} {a c : Nat} {r : List Nat} {S : Store}
theorem g_add470 {S : Store} : gAdd (.d (.int 2147483647)) (.d (.int 0)) S = some (nt 2147483647, S) := rfl
theorem g_add471 {S : Store} : gAdd (.d (.int 2147483647)) (.d (.int 1)) S = some (nt 2147483648, S) := rfl
/-- the figures behind, without a head -/
theorem wa_fig (n : Nat) (h : t.drop a = c :: r) (hL : P6.isL c = false) (hF : P6.isF c = true) (hl : t.length < 900000) (hk : okc t = true) : callN (n + 3) 20 [st t, nt a] S = .ok (.d (encW (P6.lWord barred (c :: r)))) S := by
  obtain ⟨hc, ha, hr, hm⟩ := drop_at h
  have hl2 : t.length ≤ lim := Nat.le_trans (Nat.le_of_lt hl) (by decide)
  have hcF := P6.isF_iff.mp hF
  have nq : ¬ (c = 126 ∨ c = 63) := by omega
  show toR (b20 (callN (n + 2)) [some (st t), some (nt a), none, none, none, none, none, none, none, none] S) = _
  unfold b20
  rw [wa_head]
  have gL : gInA (st [c]) (st P6.lets) S = some (bt (P6.isL c), S) := g_in
  have gF : gInA (st [c]) (st P6.figs) S = some (bt (P6.isF c), S) := g_in
  have g2 : gInA (st [c]) (st [126, 63]) S = some (bt false, S) := by
    rw [g_in, decide_eq_false (by simp only [List.mem_cons, List.not_mem_nil, or_false]; exact nq)]
  have f16 : (if ([] : List W).length = 0 then frz S.length (callN (n + 2) 16 [] S) else R.bad) = .ok (st P6.figs) S := fcall_same (k_figs (n + 1)) rfl
  have f19 : (if ([st t, nt (a + 0), st P6.figs] : List W).length = 3 then frz S.length (callN (n + 2) 19 [st t, nt (a + 0), st P6.figs] S) else R.bad) = .ok (st ((t.drop a).takeWhile P6.isF)) S := fcall_same (k_run_from (n + 1) hl) rfl
  have hfr : (t.drop a).takeWhile P6.isF = c :: r.takeWhile P6.isF := by rw [h, List.takeWhile_cons, if_pos hF]
  have hff : ∀ d ∈ (t.drop a).takeWhile P6.isF, P6.isF d = true := fun d m => P6.mem_takeWhile m
  have hlw : P6.lWord barred (c :: r) = if 1 < ((t.drop a).takeWhile P6.isF).length ∧ c = 48 then (none, 0)
      else if (if ((t.drop a).takeWhile P6.isF).length < 12 then P6.val ((t.drop a).takeWhile P6.isF) else 1000000000000) ≤ 2147483647 then (some ((t.drop a).takeWhile P6.isF), 0) else (none, 0) := by
    rw [h]
    simp only [P6.lWord, hL, hF, nq, Bool.false_eq_true, if_false, if_true]
  rw [hlw]
  have hfl : ((t.drop a).takeWhile P6.isF).length ≤ t.length := by
    have := tl_le P6.isF (t.drop a)
    rw [List.length_drop] at this
    omega
  rw [hfr] at f19 hff hfl ⊢
  generalize r.takeWhile P6.isF = f at f19 hff hfl ⊢
  have hf2 : (c :: f).length ≤ lim := Nat.le_trans hfl hl2
  have oc : okc [c] = true := okc_mem hk hm
  have ocf := okc_figs hff
  have q1 : gEq (st (c :: f)) (st []) S = some (bt false, S) := by rw [g_eqs ocf (by decide), decide_eq_false (by simp)]
  have q2 : gEq (st [c]) (st [48]) S = some (bt (decide (c = 48)), S) := by rw [g_eqs oc (by decide)]; simp
  have q3 : gEq (st []) (st [126]) S = some (bt false, S) := by rw [g_eqs (by decide) (by decide)]; rfl
  have q4 : gEq (st []) (st [63]) S = some (bt false, S) := by rw [g_eqs (by decide) (by decide)]; rfl
  have ct : gAdd (st []) (st (c :: f)) S = some (st (c :: f), S) := g_cat (by rw [List.length_nil, Nat.zero_add]; exact hf2)
  have gl0 : gLen [st []] S = some (nt 0, S) := g_len (by decide)
  by_cases h1 : 1 < (c :: f).length
  · by_cases h48 : c = 48
    · rw [decide_eq_true h48] at q2
      rw [if_pos ⟨h1, h48⟩]
      simp only [fSeq, fAsg, fVar, fC, f1, f2, fL, fAc, fA0, fTest, fAndT, fOrT, fNotT, fTru, fAndV, fOrV, fIfE, fIf, fRet, fAug, fDrop, fSl, fPart, fNoPart, intOf, gtName, R_ok, toS_ok, lift_some, boolW_ok, truR_b, List.getElem?_cons_zero, List.getElem?_cons_succ, List.set_cons_zero, List.set_cons_succ, fCall, fNext, g_ix hc hl2, gL, hL, gF, hF, Bool.false_eq_true, if_false, if_true, l_two, g2, f16, l_nil, gl0, g_add, f19, q1, g_len hf2, g_gt1, h1, decide_true, g_ix0 hf2, l_zero, q2, g_tup2, toR, encW]
      rfl
    · rw [decide_eq_false h48] at q2
      rw [if_neg (fun z => h48 z.2)]
      by_cases h12 : (c :: f).length < 12
      · have gi : gIntA [st (c :: f)] S = some (nt (P6.val (c :: f)), S) := g_int hff (by simp) (by omega)
        by_cases hv : P6.val (c :: f) ≤ 2147483647
        · simp only [fSeq, fAsg, fVar, fC, f1, f2, fL, fAc, fA0, fTest, fAndT, fOrT, fNotT, fTru, fAndV, fOrV, fIfE, fIf, fRet, fAug, fDrop, fSl, fPart, fNoPart, intOf, gtName, R_ok, toS_ok, lift_some, boolW_ok, truR_b, List.getElem?_cons_zero, List.getElem?_cons_succ, List.set_cons_zero, List.set_cons_succ, fCall, fNext, g_ix hc hl2, gL, hL, gF, hF, Bool.false_eq_true, if_false, if_true, l_two, l_wave, l_ask, g2, f16, l_nil, gl0, g_add, f19, q1, g_len hf2, g_gt1, h1, decide_true, g_ix0 hf2, l_zero, q2, q3, q4, g_lt12, h12, gi, g_b2i, g_add470, g_le, hv, ct, g_tup2, toR, encW]
        · simp only [fSeq, fAsg, fVar, fC, f1, f2, fL, fAc, fA0, fTest, fAndT, fOrT, fNotT, fTru, fAndV, fOrV, fIfE, fIf, fRet, fAug, fDrop, fSl, fPart, fNoPart, intOf, gtName, R_ok, toS_ok, lift_some, boolW_ok, truR_b, List.getElem?_cons_zero, List.getElem?_cons_succ, List.set_cons_zero, List.set_cons_succ, fCall, fNext, g_ix hc hl2, gL, hL, gF, hF, Bool.false_eq_true, if_false, if_true, l_two, l_wave, l_ask, g2, f16, l_nil, gl0, g_add, f19, q1, g_len hf2, g_gt1, h1, decide_true, decide_false, g_ix0 hf2, l_zero, q2, q3, q4, g_lt12, h12, gi, g_b2i, g_add470, g_le, hv, g_tup2, toR, encW]
          rfl
      · have hv : ¬ 1000000000000 ≤ 2147483647 := by decide
        simp only [fSeq, fAsg, fVar, fC, f1, f2, fL, fAc, fA0, fTest, fAndT, fOrT, fNotT, fTru, fAndV, fOrV, fIfE, fIf, fRet, fAug, fDrop, fSl, fPart, fNoPart, intOf, gtName, R_ok, toS_ok, lift_some, boolW_ok, truR_b, List.getElem?_cons_zero, List.getElem?_cons_succ, List.set_cons_zero, List.set_cons_succ, fCall, fNext, g_ix hc hl2, gL, hL, gF, hF, Bool.false_eq_true, if_false, if_true, l_two, l_wave, l_ask, g2, f16, l_nil, gl0, g_add, f19, q1, g_len hf2, g_gt1, h1, decide_true, decide_false, g_ix0 hf2, l_zero, q2, q3, q4, g_lt12, h12, g_pow12, g_b2i, g_add470, g_le, hv, g_tup2, toR, encW]
        rfl
  · rw [if_neg (fun z => h1 z.1)]
    have h12 : (c :: f).length < 12 := by omega
    have gi : gIntA [st (c :: f)] S = some (nt (P6.val (c :: f)), S) := g_int hff (by simp) (by omega)
    by_cases hv : P6.val (c :: f) ≤ 2147483647
    · simp only [fSeq, fAsg, fVar, fC, f1, f2, fL, fAc, fA0, fTest, fAndT, fOrT, fNotT, fTru, fAndV, fOrV, fIfE, fIf, fRet, fAug, fDrop, fSl, fPart, fNoPart, intOf, gtName, R_ok, toS_ok, lift_some, boolW_ok, truR_b, List.getElem?_cons_zero, List.getElem?_cons_succ, List.set_cons_zero, List.set_cons_succ, fCall, fNext, g_ix hc hl2, gL, hL, gF, hF, Bool.false_eq_true, if_false, if_true, l_two, l_wave, l_ask, g2, f16, l_nil, gl0, g_add, f19, q1, g_len hf2, g_gt1, h1, decide_true, decide_false, g_ix0 hf2, l_zero, q3, q4, g_lt12, h12, gi, g_b2i, g_add470, g_le, hv, ct, g_tup2, toR, encW]
    · simp only [fSeq, fAsg, fVar, fC, f1, f2, fL, fAc, fA0, fTest, fAndT, fOrT, fNotT, fTru, fAndV, fOrV, fIfE, fIf, fRet, fAug, fDrop, fSl, fPart, fNoPart, intOf, gtName, R_ok, toS_ok, lift_some, boolW_ok, truR_b, List.getElem?_cons_zero, List.getElem?_cons_succ, List.set_cons_zero, List.set_cons_succ, fCall, fNext, g_ix hc hl2, gL, hL, gF, hF, Bool.false_eq_true, if_false, if_true, l_two, l_wave, l_ask, g2, f16, l_nil, gl0, g_add, f19, q1, g_len hf2, g_gt1, h1, decide_true, decide_false, g_ix0 hf2, l_zero, q3, q4, g_lt12, h12, gi, g_b2i, g_add470, g_le, hv, g_tup2, toR, encW]
      rfl
/-- a head and figures -/
theorem wa_mark (n : Nat) (h : t.drop a = c :: r) (hq : c = 126 ∨ c = 63) (hl : t.length < 900000) (hk : okc t = true) : callN (n + 3) 20 [st t, nt a] S = .ok (.d (encW (P6.lWord barred (c :: r)))) S := by
  obtain ⟨hc, ha, hr, hm⟩ := drop_at h
  have hl2 : t.length ≤ lim := Nat.le_trans (Nat.le_of_lt hl) (by decide)
  show toR (b20 (callN (n + 2)) [some (st t), some (nt a), none, none, none, none, none, none, none, none] S) = _
  unfold b20
  rw [wa_head]
  have hL : P6.isL c = false := by
    cases e : P6.isL c with
    | false => rfl
    | true => have := P6.isL_iff.mp e; omega
  have gL : gInA (st [c]) (st P6.lets) S = some (bt (P6.isL c), S) := g_in
  have g2 : gInA (st [c]) (st [126, 63]) S = some (bt true, S) := by
    rw [g_in, decide_eq_true (by simp only [List.mem_cons, List.not_mem_nil, or_false]; exact hq)]
  have f16 : (if ([] : List W).length = 0 then frz S.length (callN (n + 2) 16 [] S) else R.bad) = .ok (st P6.figs) S := fcall_same (k_figs (n + 1)) rfl
  have gl1 : gLen [st [c]] S = some (nt 1, S) := g_len (by show (1 : Nat) ≤ 16777216; omega)
  have f19 : (if ([st t, nt (a + 1), st P6.figs] : List W).length = 3 then frz S.length (callN (n + 2) 19 [st t, nt (a + 1), st P6.figs] S) else R.bad) = .ok (st ((t.drop (a + 1)).takeWhile P6.isF)) S := fcall_same (k_run_from (n + 1) hl) rfl
  have hff : ∀ d ∈ (t.drop (a + 1)).takeWhile P6.isF, P6.isF d = true := fun d m => P6.mem_takeWhile m
  have hfl : ((t.drop (a + 1)).takeWhile P6.isF).length ≤ t.length := by
    have := tl_le P6.isF (t.drop (a + 1))
    rw [List.length_drop] at this
    omega
  have hlw : P6.lWord barred (c :: r) = if r.takeWhile P6.isF = [] ∨ (1 < (r.takeWhile P6.isF).length ∧ (r.takeWhile P6.isF).head? = some 48) ∨ (c = 126 ∧ r.takeWhile P6.isF = [48]) then (none, 0)
      else if c = 63 then (if 9 < (r.takeWhile P6.isF).length then (none, 0) else (some (63 :: r.takeWhile P6.isF), 0))
      else if (if (r.takeWhile P6.isF).length < 12 then P6.val (r.takeWhile P6.isF) else 1000000000000) ≤ 2147483648 then (some (126 :: r.takeWhile P6.isF), 0) else (none, 0) := by
    simp only [P6.lWord, hL, hq, Bool.false_eq_true, if_false, if_true]
  rw [hlw, hr]
  generalize (t.drop (a + 1)).takeWhile P6.isF = f at f19 hff hfl ⊢
  have hf2 : f.length ≤ lim := Nat.le_trans hfl hl2
  have oc : okc [c] = true := okc_mem hk hm
  have ocf := okc_figs hff
  have q0 : gEq (st f) (st []) S = some (bt (decide (f = [])), S) := g_eqs ocf (by decide)
  have q3 : gEq (st [c]) (st [126]) S = some (bt (decide (c = 126)), S) := by rw [g_eqs oc (by decide)]; simp
  have q4 : gEq (st [c]) (st [63]) S = some (bt (decide (c = 63)), S) := by rw [g_eqs oc (by decide)]; simp
  have q5 : gEq (st f) (st [48]) S = some (bt (decide (f = [48])), S) := g_eqs ocf (by decide)
  have ct : gAdd (st [c]) (st f) S = some (st (c :: f), S) := g_cat (by show 1 + f.length ≤ 16777216; omega)
  have ct2 : gAdd (st [63]) (st f) S = some (st (63 :: f), S) := g_cat (by show 1 + f.length ≤ 16777216; omega)
  cases f with
  | nil =>
    rw [if_pos (.inl rfl)]
    rw [decide_eq_true rfl] at q0
    simp only [fSeq, fAsg, fVar, fC, f1, f2, fL, fAc, fA0, fTest, fAndT, fOrT, fNotT, fTru, fAndV, fOrV, fIfE, fIf, fRet, fAug, fDrop, fSl, fPart, fNoPart, intOf, gtName, R_ok, toS_ok, lift_some, boolW_ok, truR_b, List.getElem?_cons_zero, List.getElem?_cons_succ, List.set_cons_zero, List.set_cons_succ, fCall, fNext, g_ix hc hl2, gL, hL, Bool.false_eq_true, if_false, if_true, l_two, l_nil, g2, f16, gl1, g_add, f19, q0, g_tup2, toR, encW]
    rfl
  | cons d f =>
    rw [decide_eq_false (by simp)] at q0
    have od : okc [d] = true := okc_mem ocf (by simp)
    have q6 : gEq (st [d]) (st [48]) S = some (bt (decide (d = 48)), S) := by rw [g_eqs od (by decide)]; simp
    by_cases hB : 1 < (d :: f).length ∧ (d :: f).head? = some 48
    · rw [if_pos (.inr (.inl hB))]
      obtain ⟨h1, h48⟩ := hB
      simp only [List.head?_cons, Option.some.injEq] at h48
      rw [decide_eq_true h48] at q6
      simp only [fSeq, fAsg, fVar, fC, f1, f2, fL, fAc, fA0, fTest, fAndT, fOrT, fNotT, fTru, fAndV, fOrV, fIfE, fIf, fRet, fAug, fDrop, fSl, fPart, fNoPart, intOf, gtName, R_ok, toS_ok, lift_some, boolW_ok, truR_b, List.getElem?_cons_zero, List.getElem?_cons_succ, List.set_cons_zero, List.set_cons_succ, fCall, fNext, g_ix hc hl2, gL, hL, Bool.false_eq_true, if_false, if_true, l_two, l_nil, l_zero, g2, f16, gl1, g_add, f19, q0, g_len hf2, g_gt1, h1, decide_true, g_ix0 hf2, q6, g_tup2, toR, encW]
      rfl
    · by_cases hC : c = 126 ∧ d :: f = [48]
      · rw [if_pos (.inr (.inr hC))]
        obtain ⟨rfl, h0⟩ := hC
        rw [decide_eq_true rfl] at q3
        rw [decide_eq_true h0] at q5
        by_cases h1 : 1 < (d :: f).length
        · rw [h0] at h1; exact absurd h1 (by decide)
        · simp only [fSeq, fAsg, fVar, fC, f1, f2, fL, fAc, fA0, fTest, fAndT, fOrT, fNotT, fTru, fAndV, fOrV, fIfE, fIf, fRet, fAug, fDrop, fSl, fPart, fNoPart, intOf, gtName, R_ok, toS_ok, lift_some, boolW_ok, truR_b, List.getElem?_cons_zero, List.getElem?_cons_succ, List.set_cons_zero, List.set_cons_succ, fCall, fNext, g_ix hc hl2, gL, hL, Bool.false_eq_true, if_false, if_true, l_two, l_nil, l_zero, l_wave, g2, f16, gl1, g_add, f19, q0, g_len hf2, g_gt1, h1, decide_false, q3, q5, g_tup2, toR, encW]
          rfl
      · rw [if_neg (by
          rintro (z | z | z)
          · cases z
          · exact hB z
          · exact hC z)]
        have c2 : ∃ b2 : Bool, (gGt (nt (d :: f).length) (.d (.int 1)) S = some (bt b2, S)) ∧ (b2 = true → d ≠ 48) := ⟨decide (1 < (d :: f).length), g_gt1, fun z y => hB ⟨of_decide_eq_true z, by rw [y]; rfl⟩⟩
        obtain ⟨b2, gb2, hb2⟩ := c2
        have q6' : b2 = true → gEq (st [d]) (st [48]) S = some (bt false, S) := fun z => by rw [q6, decide_eq_false (hb2 z)]
        by_cases h63 : c = 63
        · subst h63
          have q3 : gEq (st [63]) (st [126]) S = some (bt false, S) := q3
          have q4 : gEq (st [63]) (st [63]) S = some (bt true, S) := q4
          rw [if_pos rfl]
          by_cases h9 : 9 < (d :: f).length
          · cases b2 with
            | false =>
              simp only [fSeq, fAsg, fVar, fC, f1, f2, fL, fAc, fA0, fTest, fAndT, fOrT, fNotT, fTru, fAndV, fOrV, fIfE, fIf, fRet, fAug, fDrop, fSl, fPart, fNoPart, intOf, gtName, R_ok, toS_ok, lift_some, boolW_ok, truR_b, List.getElem?_cons_zero, List.getElem?_cons_succ, List.set_cons_zero, List.set_cons_succ, fCall, fNext, g_ix hc hl2, gL, hL, Bool.false_eq_true, if_false, if_true, l_two, l_nil, l_zero, l_wave, l_ask, g2, f16, gl1, g_add, f19, q0, g_len hf2, gb2, q3, q4, g_gt9, h9, decide_true, g_tup2, toR, encW]
              rfl
            | true =>
              simp only [fSeq, fAsg, fVar, fC, f1, f2, fL, fAc, fA0, fTest, fAndT, fOrT, fNotT, fTru, fAndV, fOrV, fIfE, fIf, fRet, fAug, fDrop, fSl, fPart, fNoPart, intOf, gtName, R_ok, toS_ok, lift_some, boolW_ok, truR_b, List.getElem?_cons_zero, List.getElem?_cons_succ, List.set_cons_zero, List.set_cons_succ, fCall, fNext, g_ix hc hl2, gL, hL, Bool.false_eq_true, if_false, if_true, l_two, l_nil, l_zero, l_wave, l_ask, g2, f16, gl1, g_add, f19, q0, g_len hf2, gb2, g_ix0 hf2, q6' rfl, q3, q4, g_gt9, h9, decide_true, g_tup2, toR, encW]
              rfl
          · cases b2 with
            | false => simp only [fSeq, fAsg, fVar, fC, f1, f2, fL, fAc, fA0, fTest, fAndT, fOrT, fNotT, fTru, fAndV, fOrV, fIfE, fIf, fRet, fAug, fDrop, fSl, fPart, fNoPart, intOf, gtName, R_ok, toS_ok, lift_some, boolW_ok, truR_b, List.getElem?_cons_zero, List.getElem?_cons_succ, List.set_cons_zero, List.set_cons_succ, fCall, fNext, g_ix hc hl2, gL, hL, Bool.false_eq_true, if_false, if_true, l_two, l_nil, l_zero, l_wave, l_ask, g2, f16, gl1, g_add, f19, q0, g_len hf2, gb2, q3, q4, g_gt9, h9, decide_false, ct2, g_tup2, toR, encW]
            | true => simp only [fSeq, fAsg, fVar, fC, f1, f2, fL, fAc, fA0, fTest, fAndT, fOrT, fNotT, fTru, fAndV, fOrV, fIfE, fIf, fRet, fAug, fDrop, fSl, fPart, fNoPart, intOf, gtName, R_ok, toS_ok, lift_some, boolW_ok, truR_b, List.getElem?_cons_zero, List.getElem?_cons_succ, List.set_cons_zero, List.set_cons_succ, fCall, fNext, g_ix hc hl2, gL, hL, Bool.false_eq_true, if_false, if_true, l_two, l_nil, l_zero, l_wave, l_ask, g2, f16, gl1, g_add, f19, q0, g_len hf2, gb2, g_ix0 hf2, q6' rfl, q3, q4, g_gt9, h9, decide_false, ct2, g_tup2, toR, encW]
        · have h126 : c = 126 := by omega
          subst h126
          have q3 : gEq (st [126]) (st [126]) S = some (bt true, S) := q3
          have q4 : gEq (st [126]) (st [63]) S = some (bt false, S) := q4
          have q5 : gEq (st (d :: f)) (st [48]) S = some (bt false, S) := by rw [q5, decide_eq_false (fun z => hC ⟨rfl, z⟩)]
          rw [if_neg h63]
          by_cases h12 : (d :: f).length < 12
          · have gi : gIntA [st (d :: f)] S = some (nt (P6.val (d :: f)), S) := g_int hff (by simp) (by omega)
            by_cases hv : P6.val (d :: f) ≤ 2147483648
            · cases b2 with
              | false => simp only [fSeq, fAsg, fVar, fC, f1, f2, fL, fAc, fA0, fTest, fAndT, fOrT, fNotT, fTru, fAndV, fOrV, fIfE, fIf, fRet, fAug, fDrop, fSl, fPart, fNoPart, intOf, gtName, R_ok, toS_ok, lift_some, boolW_ok, truR_b, List.getElem?_cons_zero, List.getElem?_cons_succ, List.set_cons_zero, List.set_cons_succ, fCall, fNext, g_ix hc hl2, gL, hL, Bool.false_eq_true, if_false, if_true, l_two, l_nil, l_zero, l_wave, l_ask, g2, f16, gl1, g_add, f19, q0, g_len hf2, gb2, q3, q4, q5, g_lt12, h12, gi, g_b2i, g_add471, g_le, hv, decide_true, ct, g_tup2, toR, encW]
              | true => simp only [fSeq, fAsg, fVar, fC, f1, f2, fL, fAc, fA0, fTest, fAndT, fOrT, fNotT, fTru, fAndV, fOrV, fIfE, fIf, fRet, fAug, fDrop, fSl, fPart, fNoPart, intOf, gtName, R_ok, toS_ok, lift_some, boolW_ok, truR_b, List.getElem?_cons_zero, List.getElem?_cons_succ, List.set_cons_zero, List.set_cons_succ, fCall, fNext, g_ix hc hl2, gL, hL, Bool.false_eq_true, if_false, if_true, l_two, l_nil, l_zero, l_wave, l_ask, g2, f16, gl1, g_add, f19, q0, g_len hf2, gb2, g_ix0 hf2, q6' rfl, q3, q4, q5, g_lt12, h12, gi, g_b2i, g_add471, g_le, hv, decide_true, ct, g_tup2, toR, encW]
            · cases b2 with
              | false =>
                simp only [fSeq, fAsg, fVar, fC, f1, f2, fL, fAc, fA0, fTest, fAndT, fOrT, fNotT, fTru, fAndV, fOrV, fIfE, fIf, fRet, fAug, fDrop, fSl, fPart, fNoPart, intOf, gtName, R_ok, toS_ok, lift_some, boolW_ok, truR_b, List.getElem?_cons_zero, List.getElem?_cons_succ, List.set_cons_zero, List.set_cons_succ, fCall, fNext, g_ix hc hl2, gL, hL, Bool.false_eq_true, if_false, if_true, l_two, l_nil, l_zero, l_wave, l_ask, g2, f16, gl1, g_add, f19, q0, g_len hf2, gb2, q3, q4, q5, g_lt12, h12, gi, g_b2i, g_add471, g_le, hv, decide_true, decide_false, g_tup2, toR, encW]
                rfl
              | true =>
                simp only [fSeq, fAsg, fVar, fC, f1, f2, fL, fAc, fA0, fTest, fAndT, fOrT, fNotT, fTru, fAndV, fOrV, fIfE, fIf, fRet, fAug, fDrop, fSl, fPart, fNoPart, intOf, gtName, R_ok, toS_ok, lift_some, boolW_ok, truR_b, List.getElem?_cons_zero, List.getElem?_cons_succ, List.set_cons_zero, List.set_cons_succ, fCall, fNext, g_ix hc hl2, gL, hL, Bool.false_eq_true, if_false, if_true, l_two, l_nil, l_zero, l_wave, l_ask, g2, f16, gl1, g_add, f19, q0, g_len hf2, gb2, g_ix0 hf2, q6' rfl, q3, q4, q5, g_lt12, h12, gi, g_b2i, g_add471, g_le, hv, decide_true, decide_false, g_tup2, toR, encW]
                rfl
          · have hv : ¬ 1000000000000 ≤ 2147483648 := by decide
            cases b2 with
            | false =>
              simp only [fSeq, fAsg, fVar, fC, f1, f2, fL, fAc, fA0, fTest, fAndT, fOrT, fNotT, fTru, fAndV, fOrV, fIfE, fIf, fRet, fAug, fDrop, fSl, fPart, fNoPart, intOf, gtName, R_ok, toS_ok, lift_some, boolW_ok, truR_b, List.getElem?_cons_zero, List.getElem?_cons_succ, List.set_cons_zero, List.set_cons_succ, fCall, fNext, g_ix hc hl2, gL, hL, Bool.false_eq_true, if_false, if_true, l_two, l_nil, l_zero, l_wave, l_ask, g2, f16, gl1, g_add, f19, q0, g_len hf2, gb2, q3, q4, q5, g_lt12, h12, g_pow12, g_b2i, g_add471, g_le, hv, decide_true, decide_false, g_tup2, toR, encW]
              rfl
            | true =>
              simp only [fSeq, fAsg, fVar, fC, f1, f2, fL, fAc, fA0, fTest, fAndT, fOrT, fNotT, fTru, fAndV, fOrV, fIfE, fIf, fRet, fAug, fDrop, fSl, fPart, fNoPart, intOf, gtName, R_ok, toS_ok, lift_some, boolW_ok, truR_b, List.getElem?_cons_zero, List.getElem?_cons_succ, List.set_cons_zero, List.set_cons_succ, fCall, fNext, g_ix hc hl2, gL, hL, Bool.false_eq_true, if_false, if_true, l_two, l_nil, l_zero, l_wave, l_ask, g2, f16, gl1, g_add, f19, q0, g_len hf2, gb2, g_ix0 hf2, q6' rfl, q3, q4, q5, g_lt12, h12, g_pow12, g_b2i, g_add471, g_le, hv, decide_true, decide_false, g_tup2, toR, encW]
              rfl
theorem wa_sign (n : Nat) (h : t.drop a = c :: r) (hL : P6.isL c = false) (hF : P6.isF c = false) (hq : ¬ (c = 126 ∨ c = 63)) (hl : t.length < 900000) (hk : okc t = true) : callN (n + 3) 20 [st t, nt a] S = .ok (.d (encW (P6.lWord barred (c :: r)))) S := by
  obtain ⟨hc, ha, hr, hm⟩ := drop_at h
  have hl2 : t.length ≤ lim := Nat.le_trans (Nat.le_of_lt hl) (by decide)
  show toR (b20 (callN (n + 2)) [some (st t), some (nt a), none, none, none, none, none, none, none, none] S) = _
  unfold b20
  rw [wa_head]
  have gL : gInA (st [c]) (st P6.lets) S = some (bt (P6.isL c), S) := g_in
  have gF : gInA (st [c]) (st P6.figs) S = some (bt (P6.isF c), S) := g_in
  have gS : gInA (st [c]) (st P6.sigs) S = some (bt (P6.isS c), S) := g_in
  have g2 : gInA (st [c]) (st [126, 63]) S = some (bt false, S) := by
    rw [g_in, decide_eq_false (by simp only [List.mem_cons, List.not_mem_nil, or_false]; exact hq)]
  have f16 : (if ([] : List W).length = 0 then frz S.length (callN (n + 2) 16 [] S) else R.bad) = .ok (st P6.figs) S := fcall_same (k_figs (n + 1)) rfl
  have q3 : gEq (st ((t.drop a).take 2)) (st [45, 62]) S = some (bt (decide ((t.drop a).take 2 = [45, 62])), S) := g_eqs (okc_cut hk _ _) (by decide)
  by_cases hA : (t.drop a).take 2 = [45, 62]
  · have hA2 := hA
    rw [h] at hA2
    rw [decide_eq_true hA] at q3
    simp only [fSeq, fAsg, fVar, fC, f1, f2, fL, fAc, fA0, fTest, fAndT, fOrT, fNotT, fTru, fAndV, fOrV, fIfE, fIf, fRet, fAug, fDrop, fSl, fPart, fNoPart, intOf, gtName, R_ok, toS_ok, lift_some, boolW_ok, truR_b, List.getElem?_cons_zero, List.getElem?_cons_succ, List.set_cons_zero, List.set_cons_succ, fCall, fNext, g_ix hc hl2, gL, hL, gF, hF, Bool.false_eq_true, if_false, if_true, l_two, l_figs, g2, f16, g_add2, g_sl2 hl2, l_arrow, q3, g_tup2, toR, P6.lWord, hq, hA2, encW]
  · have hA2 := hA
    rw [h] at hA2
    rw [decide_eq_false hA] at q3
    by_cases hS : P6.isS c = true
    · simp only [fSeq, fAsg, fVar, fC, f1, f2, fL, fAc, fA0, fTest, fAndT, fOrT, fNotT, fTru, fAndV, fOrV, fIfE, fIf, fRet, fAug, fDrop, fSl, fPart, fNoPart, intOf, gtName, R_ok, toS_ok, lift_some, boolW_ok, truR_b, List.getElem?_cons_zero, List.getElem?_cons_succ, List.set_cons_zero, List.set_cons_succ, fCall, fNext, g_ix hc hl2, gL, hL, gF, hF, Bool.false_eq_true, if_false, if_true, l_two, l_figs, l_sigs, g2, f16, g_add2, g_sl2 hl2, l_arrow, q3, gS, hS, g_tup2, toR, P6.lWord, hq, hA2, encW]
    · rw [Bool.not_eq_true] at hS
      simp only [fSeq, fAsg, fVar, fC, f1, f2, fL, fAc, fA0, fTest, fAndT, fOrT, fNotT, fTru, fAndV, fOrV, fIfE, fIf, fRet, fAug, fDrop, fSl, fPart, fNoPart, intOf, gtName, R_ok, toS_ok, lift_some, boolW_ok, truR_b, List.getElem?_cons_zero, List.getElem?_cons_succ, List.set_cons_zero, List.set_cons_succ, fCall, fNext, g_ix hc hl2, gL, hL, gF, hF, Bool.false_eq_true, if_false, if_true, l_two, l_figs, l_sigs, g2, f16, g_add2, g_sl2 hl2, l_arrow, q3, gS, hS, g_tup2, toR, P6.lWord, hq, hA2, encW]
      rfl
/-- _law_word_at -/
theorem k_word_at (n : Nat) (h : t.drop a = c :: r) (hl : t.length < 900000) (hk : okc t = true) : callN (n + 3) 20 [st t, nt a] S = .ok (.d (encW (P6.lWord barred (c :: r)))) S := by
  by_cases hL : P6.isL c = true
  · exact wa_name n h hL hl hk
  · rw [Bool.not_eq_true] at hL
    by_cases hF : P6.isF c = true
    · exact wa_fig n h hL hF hl hk
    · rw [Bool.not_eq_true] at hF
      by_cases hq : c = 126 ∨ c = 63
      · exact wa_mark n h hq hl hk
      · exact wa_sign n h hL hF hq hl hk
end
end VI
set_option Elab.async false
set_option linter.all false
set_option maxRecDepth 100000
namespace VI
open PySem PySem.Spec PyProof.Rows L2

theorem gt2 {i j : Nat} {a b : PyData} {ρ : Rho} : gtTup 2 (gtCons (gtName i) (gtCons (gtName j) gtNil)) (.d (.tuple [a, b])) ρ = some ((ρ.set i (some (.d a))).set j (some (.d b))) := rfl
def encTok (x : P6.Tok) : PyData := .tuple [.str (tx x.1), .int (x.2.1 : Int), .int (x.2.2 : Int)]
theorem lw_some {c : Nat} {r w : List Nat} {k : Nat} (h : P6.lWord barred (c :: r) = (some w, k)) : 1 ≤ w.length ∧ w = (c :: r).take w.length ∧ w.length ≤ r.length + 1 := by
  rw [P6.agree] at h
  cases q : P6.pFault barred ((c :: r).take (P6.pEnd (c :: r))) with
  | some j => rw [q] at h; cases h
  | none =>
    rw [q] at h
    cases h
    have hl := P6.pEnd_le (c :: r)
    have e : ((c :: r).take (P6.pEnd (c :: r))).length = P6.pEnd (c :: r) := by rw [List.length_take]; omega
    rw [e]
    rw [List.length_cons] at hl
    refine ⟨Nat.pos_of_ne_zero fun z => ?_, rfl, hl⟩
    rw [z] at q
    simp [P6.pFault] at q
theorem dw_drop (p : Nat → Bool) : ∀ l : List Nat, l.dropWhile p = l.drop (l.takeWhile p).length
  | [] => rfl
  | c :: l => by
    rw [List.dropWhile_cons, List.takeWhile_cons]
    split
    · rw [List.length_cons, List.drop_succ_cons, dw_drop p l]
    · rfl
theorem okc_one {t : List Nat} {i c : Nat} (hk : okc t = true) (h : t[i]? = some c) : okc [c] = true := okc_mem hk (List.mem_of_getElem? h)
abbrev rS (t : List Nat) (l line col e : Nat) (x y z : Option W) : Rho := [some (st t), some (.loc l), some (nt line), some (nt col), some (nt e), x, y, z]
noncomputable abbrev inC : FT := (fAndT (fTest (f2 gLt (fVar 4) (fL gLen (fAc (fVar 0) fA0)))) (fTest (f2 gNe (f2 gIx (fVar 0) (fVar 4)) (fC (.str "\n")))))
noncomputable abbrev inB : FS := (fPar 4 3 (fAc (f2 gAdd (fVar 4) (fC (.int 1))) (fAc (f2 gAdd (fVar 3) (fC (.int 1))) fA0)))
/-- a remark gone by -/
theorem in_while {t : List Nat} {l line : Nat} {x y z : Option W} {S : Store} (hl : t.length ≤ lim) (hk : okc t = true) : ∀ (k e col m : Nat), t.length ≤ e + k → k < m →
    whileL inC inB m (rS t l line col e x y z) S = .next (rS t l line (col + ((t.drop e).takeWhile (· != 10)).length) (e + ((t.drop e).takeWhile (· != 10)).length) x y z) S
  | k, e, col, 0, _, hm => by omega
  | k, e, col, m + 1, hk2, hm => by
    rw [while_step]
    by_cases he : e < t.length
    · obtain ⟨c, hc⟩ : ∃ c, t[e]? = some c := ⟨t[e], List.getElem?_eq_getElem he⟩
      have hd : t.drop e = c :: t.drop (e + 1) := by
        rw [List.drop_eq_getElem_cons he]
        rw [List.getElem?_eq_getElem he] at hc
        cases hc
        rfl
      have q : gNe (st [c]) (st [10]) S = some (bt (!decide (c = 10)), S) := by rw [g_nes (okc_one hk hc) (by decide)]; simp
      cases k with
      | zero => omega
      | succ k =>
      by_cases h10 : c = 10
      · rw [decide_eq_true h10] at q
        simp only [fSeq, fAsg, fVar, fC, f1, f2, fL, fAc, fA0, fTest, fAndT, fOrT, fNotT, fTru, fAndV, fOrV, fIfE, fIf, fRet, fAug, fDrop, fSl, fPart, fNoPart, intOf, gtName, R_ok, toS_ok, lift_some, boolW_ok, truR_b, List.getElem?_cons_zero, List.getElem?_cons_succ, List.set_cons_zero, List.set_cons_succ, rS, g_len hl, g_lt, he, decide_true, if_true, g_ix hc hl, l_line, q, Bool.not_true, Bool.false_eq_true, if_false]
        rw [hd, List.takeWhile_cons, if_neg (by simp [h10])]
        rfl
      · rw [decide_eq_false h10] at q
        have ih := in_while (l := l) (line := line) (x := x) (y := y) (z := z) (S := S) hl hk k (e + 1) (col + 1) m (by omega) (by omega)
        simp only [fSeq, fAsg, fVar, fC, f1, f2, fL, fAc, fA0, fTest, fAndT, fOrT, fNotT, fTru, fAndV, fOrV, fIfE, fIf, fRet, fAug, fDrop, fSl, fPart, fNoPart, intOf, gtName, R_ok, toS_ok, lift_some, boolW_ok, truR_b, List.getElem?_cons_zero, List.getElem?_cons_succ, List.set_cons_zero, List.set_cons_succ, rS, fPar, g_len hl, g_lt, he, decide_true, if_true, g_ix hc hl, l_line, q, Bool.not_false, g_add1]
        rw [ih, hd, List.takeWhile_cons, if_pos (by simpa using h10), List.length_cons]
        rw [show ∀ L : Nat, col + 1 + L = col + (L + 1) from fun L => by omega, show ∀ L : Nat, e + 1 + L = e + (L + 1) from fun L => by omega]
    · simp only [fSeq, fAsg, fVar, fC, f1, f2, fL, fAc, fA0, fTest, fAndT, fOrT, fNotT, fTru, fAndV, fOrV, fIfE, fIf, fRet, fAug, fDrop, fSl, fPart, fNoPart, intOf, gtName, R_ok, toS_ok, lift_some, boolW_ok, truR_b, List.getElem?_cons_zero, List.getElem?_cons_succ, List.set_cons_zero, List.set_cons_succ, rS, g_len hl, g_lt, he, decide_false, Bool.false_eq_true, if_false]
      rw [List.drop_of_length_le (by omega)]
      rfl
noncomputable abbrev scC : FT := (fTest (f2 gLt (fVar 4) (fL gLen (fAc (fVar 0) fA0))))
noncomputable abbrev scB (call : Calls) : FS := (fSeq (fAsg (f2 gIx (fVar 0) (fVar 4)) (gtName 5)) (fSeq (fIf (fTest (f2 gEq (fVar 5) (fC (.str "\n")))) (fSeq (fPar3 2 3 4 (fAc (f2 gAdd (fVar 2) (fC (.int 1))) (fAc (fC (.int 0)) (fAc (f2 gAdd (fVar 4) (fC (.int 1))) fA0)))) fCnt) fNext) (fSeq (fIf (fTest (f2 gEq (fVar 5) (fC (.str "#")))) (fSeq (whileL inC inB 1000000) fCnt) fNext) (fSeq (fIf (fTest (f2 gEq (fVar 5) (fC (.str " ")))) (fSeq (fPar 4 3 (fAc (f2 gAdd (fVar 4) (fC (.int 1))) (fAc (f2 gAdd (fVar 3) (fC (.int 1))) fA0))) fCnt) fNext) (fSeq (fAsg (fCall 2 (call 20) (fAc (fVar 0) (fAc (fVar 4) fA0))) (gtTup 2 (gtCons (gtName 6) (gtCons (gtName 7) gtNil)))) (fSeq (fIf (fTest (f2 gNotN (fVar 7) (fC .none))) (fRet (fL gTup (fAc (fC (.str "text")) (fAc (fVar 2) (fAc (f2 gAdd (fVar 3) (fVar 7)) fA0))))) fNext) (fSeq (fDrop (fMeth mAppend (fVar 1) (fAc (fL gTup (fAc (fVar 6) (fAc (fVar 2) (fAc (fVar 3) fA0)))) fA0))) (fPar 4 3 (fAc (f2 gAdd (fVar 4) (fL gLen (fAc (fVar 6) fA0))) (fAc (f2 gAdd (fVar 3) (fL gLen (fAc (fVar 6) fA0))) fA0))))))))))
/-- what the walk over a text comes to -/
def ScOut (S : Store) (l : Nat) (o : P6.Out) (r : RF) : Prop := match o with
  | .told fs => ∃ ρ, ρ[1]? = some (some (.loc l)) ∧ r = .next ρ (S.set l (.lst (fs.map encTok)))
  | .text a b => ∃ X, r = .ret (.d (.tuple [.str "text", .int (a : Int), .int (b : Int)])) (S.set l X)
theorem sc_while (n : Nat) {t : List Nat} {l : Nat} (hl : t.length < 900000) (hk : okc t = true) : ∀ (k e line col m : Nat) (found : List P6.Tok) (x y z : Option W) (S : Store), t.length ≤ e + k → k < m → found.length ≤ e → e ≤ t.length → S[l]? = some (.lst (found.map encTok)) →
    ScOut S l (P6.scan barred found (t.drop e) line col) (whileL scC (scB (callN (n + 3))) m (rS t l line col e x y z) S)
  | k, e, line, col, 0, found, x, y, z, S, _, hm, _, _, _ => by omega
  | k, e, line, col, m + 1, found, x, y, z, S, hk2, hm, hfe, het, hS => by
    have hl2 : t.length ≤ lim := Nat.le_trans (Nat.le_of_lt hl) (by decide)
    rw [while_step]
    by_cases he : e < t.length
    · obtain ⟨c, hc⟩ : ∃ c, t[e]? = some c := ⟨t[e], List.getElem?_eq_getElem he⟩
      have hd : t.drop e = c :: t.drop (e + 1) := by
        rw [List.drop_eq_getElem_cons he]
        rw [List.getElem?_eq_getElem he] at hc
        cases hc
        rfl
      have oc := okc_one hk hc
      have q10 : gEq (st [c]) (st [10]) S = some (bt (decide (c = 10)), S) := by rw [g_eqs oc (by decide)]; simp
      have q35 : gEq (st [c]) (st [35]) S = some (bt (decide (c = 35)), S) := by rw [g_eqs oc (by decide)]; simp
      have q32 : gEq (st [c]) (st [32]) S = some (bt (decide (c = 32)), S) := by rw [g_eqs oc (by decide)]; simp
      cases k with
      | zero => omega
      | succ k =>
      rw [hd, P6.scan]
      by_cases h10 : c = 10
      · rw [decide_eq_true h10] at q10
        rw [if_pos h10]
        simp only [fSeq, fAsg, fVar, fC, f1, f2, fL, fAc, fA0, fTest, fAndT, fOrT, fNotT, fTru, fAndV, fOrV, fIfE, fIf, fRet, fAug, fDrop, fSl, fPart, fNoPart, intOf, gtName, R_ok, toS_ok, lift_some, boolW_ok, truR_b, List.getElem?_cons_zero, List.getElem?_cons_succ, List.set_cons_zero, List.set_cons_succ, rS, fPar3, fCnt, g_len hl2, g_lt, he, decide_true, if_true, g_ix hc hl2, l_line, q10, g_add1]
        exact sc_while n hl hk k (e + 1) (line + 1) 0 m found (some (st [c])) y z S (by omega) (by omega) (by omega) (by omega) hS
      · rw [decide_eq_false h10] at q10
        rw [if_neg h10]
        by_cases h35 : c = 35
        · rw [decide_eq_true h35] at q35
          rw [if_pos h35]
          have iw := in_while (l := l) (line := line) (x := some (st [c])) (y := y) (z := z) (S := S) hl2 hk t.length e col 1000000 (by omega) (by omega)
          have tw : (t.drop e).takeWhile (· != 10) = c :: (t.drop (e + 1)).takeWhile (· != 10) := by rw [hd, List.takeWhile_cons, if_pos (by simpa using h10)]
          rw [tw, List.length_cons] at iw
          have ln : ((t.drop (e + 1)).takeWhile (· != 10)).length ≤ t.length - (e + 1) := by
            have := tl_le (· != 10) (t.drop (e + 1))
            rw [List.length_drop] at this
            exact this
          rw [dw_drop, List.drop_drop]
          generalize ((t.drop (e + 1)).takeWhile (· != 10)).length = j at iw ln ⊢
          simp only [fSeq, fAsg, fVar, fC, f1, f2, fL, fAc, fA0, fTest, fAndT, fOrT, fNotT, fTru, fAndV, fOrV, fIfE, fIf, fRet, fAug, fDrop, fSl, fPart, fNoPart, intOf, gtName, R_ok, toS_ok, lift_some, boolW_ok, truR_b, List.getElem?_cons_zero, List.getElem?_cons_succ, List.set_cons_zero, List.set_cons_succ, rS, fCnt, fNext, g_len hl2, g_lt, he, decide_true, if_true, g_ix hc hl2, l_line, l_hash, q10, q35, Bool.false_eq_true, if_false]
          rw [iw]
          have ih := sc_while n (l := l) hl hk (k - j) (e + 1 + j) line (col + 1 + j) m found (some (st [c])) y z S (by omega) (by omega) (by omega) (by omega) hS
          rw [show e + (j + 1) = e + 1 + j by omega, show col + (j + 1) = col + 1 + j by omega]
          exact ih
        · rw [decide_eq_false h35] at q35
          rw [if_neg h35]
          by_cases h32 : c = 32
          · rw [decide_eq_true h32] at q32
            rw [if_pos h32]
            simp only [fSeq, fAsg, fVar, fC, f1, f2, fL, fAc, fA0, fTest, fAndT, fOrT, fNotT, fTru, fAndV, fOrV, fIfE, fIf, fRet, fAug, fDrop, fSl, fPart, fNoPart, intOf, gtName, R_ok, toS_ok, lift_some, boolW_ok, truR_b, List.getElem?_cons_zero, List.getElem?_cons_succ, List.set_cons_zero, List.set_cons_succ, rS, fPar, fCnt, fNext, g_len hl2, g_lt, he, decide_true, if_true, g_ix hc hl2, l_line, l_hash, l_blank, q10, q35, q32, g_add1, Bool.false_eq_true, if_false]
            exact sc_while n hl hk k (e + 1) line (col + 1) m found (some (st [c])) y z S (by omega) (by omega) (by omega) (by omega) hS
          · rw [decide_eq_false h32] at q32
            rw [if_neg h32]
            have f20 : (if ([st t, nt e] : List W).length = 2 then frz S.length (callN (n + 3) 20 [st t, nt e] S) else R.bad) = .ok (.d (encW (P6.lWord barred (c :: t.drop (e + 1))))) S := fcall_same (k_word_at n hd hl hk) rfl
            cases hw : P6.lWord barred (c :: t.drop (e + 1)) with
            | mk o j =>
              cases o with
              | none =>
                rw [hw] at f20
                have gn : gNotN (nt j) (.d .none) S = some (bt true, S) := rfl
                simp only [fSeq, fAsg, fVar, fC, f1, f2, fL, fAc, fA0, fTest, fAndT, fOrT, fNotT, fTru, fAndV, fOrV, fIfE, fIf, fRet, fAug, fDrop, fSl, fPart, fNoPart, intOf, gtName, R_ok, toS_ok, lift_some, boolW_ok, truR_b, List.getElem?_cons_zero, List.getElem?_cons_succ, List.set_cons_zero, List.set_cons_succ, rS, fCall, fNext, g_len hl2, g_lt, he, decide_true, if_true, g_ix hc hl2, l_line, l_hash, l_blank, q10, q35, q32, Bool.false_eq_true, if_false, f20, encW, gt2, gn, g_add, g_tup3]
                exact ⟨_, by rw [set_same hS]⟩
              | some w =>
                rw [hw] at f20
                obtain ⟨w1, w2, w3⟩ := lw_some hw
                rw [List.length_drop] at w3
                have gn : gNotN (.d .none) (.d .none) S = some (bt false, S) := rfl
                have hwl : w.length ≤ lim := by show w.length ≤ 16777216; omega
                have hfl : (found.map encTok).length < lim := by rw [List.length_map]; show found.length < 16777216; omega
                have lv : liveB (.loc l) S = true := by simp only [liveB, hS]
                have ap : mAppend (.loc l) [.d (.tuple [.str (tx w), .int (line : Int), .int (col : Int)])] S = some (.d .none, S.set l (.lst ((found ++ [(w, line, col)]).map encTok))) := by
                  simp only [mAppend, hS, hfl, if_true, List.map_append, List.map_cons, List.map_nil, encTok]
                have ih := sc_while n (l := l) hl hk (k + 1 - w.length) (e + w.length) line (col + w.length) m (found ++ [(w, line, col)]) (some (st [c])) (some (st w)) (some (.d .none)) (S.set l (.lst ((found ++ [(w, line, col)]).map encTok))) (by omega) (by omega) (by rw [List.length_append, List.length_singleton]; omega) (by omega) (at_set hS)
                have g3 : gTup [st w, nt line, nt col] S = some (.d (.tuple [.str (tx w), .int (line : Int), .int (col : Int)]), S) := g_tup3
                simp only [fSeq, fAsg, fVar, fC, f1, f2, fL, fAc, fA0, fTest, fAndT, fOrT, fNotT, fTru, fAndV, fOrV, fIfE, fIf, fRet, fAug, fDrop, fSl, fPart, fNoPart, intOf, gtName, R_ok, toS_ok, lift_some, boolW_ok, truR_b, List.getElem?_cons_zero, List.getElem?_cons_succ, List.set_cons_zero, List.set_cons_succ, rS, fCall, fNext, fPar, fDrop, fMeth, g_len hl2, g_lt, he, decide_true, if_true, g_ix hc hl2, l_line, l_hash, l_blank, q10, q35, q32, Bool.false_eq_true, if_false, f20, encW, gt2, gn, lv, g3, ap, g_len hwl, g_add]
                rw [List.drop_drop, show e + 1 + (w.length - 1) = e + w.length by omega]
                unfold ScOut at ih ⊢
                cases hs : P6.scan barred (found ++ [(w, line, col)]) (t.drop (e + w.length)) line (col + w.length) with
                | told fs =>
                  rw [hs] at ih
                  obtain ⟨ρ, h1, h2⟩ := ih
                  exact ⟨ρ, h1, by rw [h2, List.set_set]⟩
                | text a b =>
                  rw [hs] at ih
                  obtain ⟨X, h2⟩ := ih
                  exact ⟨X, by rw [h2, List.set_set]⟩
    · have hd : t.drop e = [] := List.drop_of_length_le (by omega)
      rw [hd, P6.scan]
      simp only [fSeq, fAsg, fVar, fC, f1, f2, fL, fAc, fA0, fTest, fAndT, fOrT, fNotT, fTru, fAndV, fOrV, fIfE, fIf, fRet, fAug, fDrop, fSl, fPart, fNoPart, intOf, gtName, R_ok, toS_ok, lift_some, boolW_ok, truR_b, List.getElem?_cons_zero, List.getElem?_cons_succ, List.set_cons_zero, List.set_cons_succ, rS, g_len hl2, g_lt, he, decide_false, Bool.false_eq_true, if_false]
      exact ⟨_, rfl, by rw [set_same hS]⟩
end VI
set_option Elab.async false
set_option linter.all false
set_option maxRecDepth 100000
namespace VI
open PySem PySem.Spec PyProof.Rows L2

def encOut : P6.Out → PyData
  | .told fs => .tuple [.str "told", .list (fs.map encTok)]
  | .text a b => .tuple [.str "text", .int (a : Int), .int (b : Int)]
/-- what a scanner hands back: the list of words live -/
def Told (S : Store) (o : P6.Out) (r : R W) : Prop := match o with
  | .told fs => r = .ok (.tp [.d (.str "told"), .loc S.length]) (S ++ [.lst (fs.map encTok)])
  | .text a b => ∃ X, r = .ok (.d (.tuple [.str "text", .int (a : Int), .int (b : Int)])) (S ++ [X])
theorem set_last {S : Store} {o u : SO} : (S ++ [o]).set S.length u = S ++ [u] := by
  rw [List.set_append_right _ _ (Nat.le_refl _), Nat.sub_self]
  rfl
theorem k_scanned (n : Nat) {t : List Nat} {S : Store} (hl : t.length < 900000) (hk : okc t = true) : Told S (P6.scan barred [] t 0 0) (callN (n + 4) 18 [st t] S) := by
  have e : callN (n + 4) 18 [st t] S = toR (b18 (callN (n + 3)) [some (st t), none, none, none, none, none, none, none] S) := rfl
  rw [e]
  unfold b18
  have h0 : (fAsg (fL gTup (fAc (fL gLive fA0) (fAc (fC (.int 0)) (fAc (fC (.int 0)) (fAc (fC (.int 0)) fA0))))) (gtTup 4 (gtCons (gtName 1) (gtCons (gtName 2) (gtCons (gtName 3) (gtCons (gtName 4) gtNil)))))) [some (st t), none, none, none, none, none, none, none] S = .next (rS t S.length 0 0 0 none none none) (S ++ [.lst []]) := rfl
  have w := sc_while n (t := t) (l := S.length) hl hk t.length 0 0 0 1000000 [] none none none (S ++ [.lst []]) (by omega) (by omega) (Nat.le_refl _) (Nat.zero_le _) push_at
  rw [List.drop_zero] at w
  have hsq : ∀ q : FS, fSeq (fAsg (fL gTup (fAc (fL gLive fA0) (fAc (fC (.int 0)) (fAc (fC (.int 0)) (fAc (fC (.int 0)) fA0))))) (gtTup 4 (gtCons (gtName 1) (gtCons (gtName 2) (gtCons (gtName 3) (gtCons (gtName 4) gtNil)))))) q [some (st t), none, none, none, none, none, none, none] S = q (rS t S.length 0 0 0 none none none) (S ++ [.lst []]) := fun q => ev_seq h0
  rw [hsq]
  unfold ScOut at w
  cases hs : P6.scan barred [] t 0 0 with
  | told fs =>
    rw [hs] at w
    obtain ⟨ρ, h1, h2⟩ := w
    rw [set_last] at h2
    show _ = _
    rw [ev_seq h2]
    simp only [fSeq, fAsg, fVar, fC, f1, f2, fL, fAc, fA0, fTest, fAndT, fOrT, fNotT, fTru, fAndV, fOrV, fIfE, fIf, fRet, fAug, fDrop, fSl, fPart, fNoPart, intOf, gtName, R_ok, toS_ok, lift_some, boolW_ok, truR_b, List.getElem?_cons_zero, List.getElem?_cons_succ, List.set_cons_zero, List.set_cons_succ, h1]
    rfl
  | text a b =>
    rw [hs] at w
    obtain ⟨X, h2⟩ := w
    rw [set_last] at h2
    refine ⟨X, ?_⟩
    rw [ev_seqR h2]
    rfl
theorem frz_told {S : Store} {o : P6.Out} {r : R W} (h : Told S o r) : frz S.length r = .ok (.d (encOut o)) S := by
  unfold Told at h
  cases o with
  | told fs =>
    rw [h]
    have e : frzW S.length (S ++ [.lst (fs.map encTok)]) (.tp [.d (.str "told"), .loc S.length]) = some (.d (encOut (.told fs))) := by
      simp only [frzW, frzWs, Nat.lt_irrefl, if_false, push_at]
      rfl
    show (match frzW S.length (S ++ [SO.lst (fs.map encTok)]) (.tp [.d (.str "told"), .loc S.length]) with | some w' => R.ok w' ((S ++ [SO.lst (fs.map encTok)]).take S.length) | none => .bad) = _
    rw [e]
    show R.ok _ (List.take S.length (S ++ _)) = _
    rw [List.take_left']
    rfl
  | text a b =>
    obtain ⟨X, h⟩ := h
    rw [h]
    show R.ok _ (List.take S.length (S ++ [X])) = _
    rw [List.take_left']
    · rfl
    · rfl

/-! the program's own -/
theorem spl_rows : ∀ (t acc : List Nat), 10 ∉ acc → TL.spl [10] 0 acc t ≠ [] ∧ (∀ r ∈ TL.spl [10] 0 acc t, 10 ∉ r) ∧ P6.joinR (TL.spl [10] 0 acc t) = acc ++ t
  | [], acc, h => by
    rw [TL.spl_nil]
    exact ⟨by simp, fun r m => by rw [List.mem_singleton.mp m]; exact h, by simp [P6.joinR]⟩
  | c :: t, acc, h => by
    by_cases hc : c = 10
    · subst hc
      rw [TL.spl_hit (by rfl)]
      obtain ⟨i1, i2, i3⟩ := spl_rows t [] (by simp)
      have e : TL.spl [10] ([10].length - 1) [] t = TL.spl [10] 0 [] t := rfl
      rw [e]
      refine ⟨by simp, fun r m => ?_, ?_⟩
      · rcases List.mem_cons.mp m with rfl | m
        · exact h
        · exact i2 r m
      · cases q : TL.spl [10] 0 [] t with
        | nil => exact absurd q i1
        | cons r0 rs =>
          rw [q] at i3
          show acc ++ 10 :: P6.joinR (r0 :: rs) = _
          rw [i3]
          rfl
    · rw [TL.spl_miss (TL.pre_of_head [] t hc)]
      obtain ⟨i1, i2, i3⟩ := spl_rows t (acc ++ [c]) (by simp only [List.mem_append, List.mem_singleton, not_or]; exact ⟨h, Ne.symm hc⟩)
      exact ⟨i1, i2, by rw [i3, List.append_assoc]; rfl⟩
abbrev rowsOf (t : List Nat) : List (List Nat) := TL.spl [10] 0 [] t
theorem row_le : ∀ (rows : List (List Nat)) (r : List Nat), r ∈ rows → r.length ≤ (P6.joinR rows).length
  | [], r, m => by cases m
  | [s], r, m => by rw [List.mem_singleton.mp m]; exact Nat.le_refl _
  | s :: u :: rs, r, m => by
    show r.length ≤ (s ++ 10 :: P6.joinR (u :: rs)).length
    rw [List.length_append, List.length_cons]
    rcases List.mem_cons.mp m with rfl | m
    · omega
    · have := row_le (u :: rs) r m
      omega
theorem row_okc : ∀ (rows : List (List Nat)), okc (P6.joinR rows) = true → ∀ r ∈ rows, okc r = true
  | [], _, r, m => by cases m
  | [s], h, r, m => by rw [List.mem_singleton.mp m]; exact h
  | s :: u :: rs, h, r, m => by
    have h2 : okc (s ++ 10 :: P6.joinR (u :: rs)) = true := h
    rcases List.mem_cons.mp m with rfl | m
    · exact okc_sub h2 fun c mc => List.mem_append_left _ mc
    · exact row_okc (u :: rs) (okc_sub h2 fun c mc => List.mem_append_right _ (List.mem_cons_of_mem _ mc)) r m
theorem g_rows {t : List Nat} {S : Store} (hl : t.length + 2 ≤ lim) : mSplit (st t) [st [10]] S = some (.d (.list ((rowsOf t).map fun p => .str (tx p))), S) := by
  have e : Txt.split (tx t) (tx [10]) = (TL.spl [10] 0 [] t).map tx := SX.split_S (a := t) (b := [10]) (by simp) (by decide)
  show (if (tx [10]).length ≠ 0 ∧ (tx t).length + 2 ≤ lim then some (W.d (.list ((Txt.split (tx t) (tx [10])).map PyData.str)), S) else none) = _
  rw [len_tx, len_tx, if_pos ⟨by decide, hl⟩, e, List.map_map]
  rfl
abbrev rW (t : List Nat) (l line : Nat) (row : List Nat) (e : Nat) (x y : Option W) : Rho := [some (st t), some (.loc l), some (nt line), some (st row), some (nt e), x, y]
noncomputable abbrev rwC : FT := (fAndT (fTest (f2 gLt (fVar 4) (fL gLen (fAc (fVar 3) fA0)))) (fTest (f2 gNe (f2 gIx (fVar 3) (fVar 4)) (fC (.str "#")))))
noncomputable abbrev rwB (call : Calls) : FS := (fSeq (fIf (fTest (f2 gEq (f2 gIx (fVar 3) (fVar 4)) (fC (.str " ")))) (fSeq (fAug 4 (gI2 (fun _ _ => true) fun i j => .int (i + j)) (fC (.int 1))) fCnt) fNext) (fSeq (fAsg (fCall 2 (call 2) (fAc (fVar 3) (fAc (fVar 4) fA0))) (gtName 5)) (fSeq (fAsg (fCall 1 (call 7) (fAc (fSl gSlA (fVar 3) (fPart (fVar 4)) (fPart (fVar 5))) fA0)) (gtName 6)) (fSeq (fIf (fTest (f2 gNotN (fVar 6) (fC .none))) (fRaise 1 ["line", "column"] (fAc (fVar 2) (fAc (f2 gAdd (fVar 4) (fVar 6)) fA0))) fNext) (fSeq (fDrop (fMeth mAppend (fVar 1) (fAc (fL gTup (fAc (fSl gSlA (fVar 3) (fPart (fVar 4)) (fPart (fVar 5))) (fAc (fVar 2) (fAc (fVar 4) fA0)))) fA0))) (fAsg (fVar 5) (gtName 4)))))))
def RowOut (S : Store) (t : List Nat) (l line : Nat) (row : List Nat) (o : P6.Out) (r : RF) : Prop := match o with
  | .told fs => ∃ e x y, r = .next (rW t l line row e x y) (S.set l (.lst (fs.map encTok)))
  | .text a b => ∃ ρ X, r = .exc 1 [("column", nt b), ("line", nt a)] ρ (S.set l X)
theorem rw_while (n : Nat) {t row : List Nat} {l line : Nat} (hl : row.length < 900000) (hk : okc row = true) : ∀ (k e m : Nat) (found : List P6.Tok) (x y : Option W) (S : Store), row.length ≤ e + k → k < m → found.length + (row.length - e) < 1000000 → e ≤ row.length → S[l]? = some (.lst (found.map encTok)) →
    RowOut S t l line row (P6.rowScan barred found (row.drop e) line e) (whileL rwC (rwB (callN (n + 3))) m (rW t l line row e x y) S)
  | k, e, 0, found, x, y, S, _, hm, _, _, _ => by omega
  | k, e, m + 1, found, x, y, S, hk2, hm, hfe, het, hS => by
    have hl2 : row.length ≤ lim := Nat.le_trans (Nat.le_of_lt hl) (by decide)
    rw [while_step]
    by_cases he : e < row.length
    · obtain ⟨c, hc⟩ : ∃ c, row[e]? = some c := ⟨row[e], List.getElem?_eq_getElem he⟩
      have hd : row.drop e = c :: row.drop (e + 1) := by
        rw [List.drop_eq_getElem_cons he]
        rw [List.getElem?_eq_getElem he] at hc
        cases hc
        rfl
      have oc := okc_one hk hc
      have q35 : gNe (st [c]) (st [35]) S = some (bt (!decide (c = 35)), S) := by rw [g_nes oc (by decide)]; simp
      have q32 : gEq (st [c]) (st [32]) S = some (bt (decide (c = 32)), S) := by rw [g_eqs oc (by decide)]; simp
      cases k with
      | zero => omega
      | succ k =>
      rw [hd, P6.rowScan]
      by_cases h35 : c = 35
      · rw [decide_eq_true h35] at q35
        rw [if_pos h35]
        simp only [fSeq, fAsg, fVar, fC, f1, f2, fL, fAc, fA0, fTest, fAndT, fOrT, fNotT, fTru, fAndV, fOrV, fIfE, fIf, fRet, fAug, fDrop, fSl, fPart, fNoPart, intOf, gtName, R_ok, toS_ok, lift_some, boolW_ok, truR_b, List.getElem?_cons_zero, List.getElem?_cons_succ, List.set_cons_zero, List.set_cons_succ, rW, g_len hl2, g_lt, he, decide_true, if_true, g_ix hc hl2, l_hash, q35, Bool.not_true, Bool.false_eq_true, if_false]
        exact ⟨e, x, y, by rw [set_same hS]⟩
      · rw [decide_eq_false h35] at q35
        rw [if_neg h35]
        by_cases h32 : c = 32
        · rw [decide_eq_true h32] at q32
          rw [if_pos h32]
          simp only [fSeq, fAsg, fVar, fC, f1, f2, fL, fAc, fA0, fTest, fAndT, fOrT, fNotT, fTru, fAndV, fOrV, fIfE, fIf, fRet, fAug, fDrop, fSl, fPart, fNoPart, intOf, gtName, R_ok, toS_ok, lift_some, boolW_ok, truR_b, List.getElem?_cons_zero, List.getElem?_cons_succ, List.set_cons_zero, List.set_cons_succ, rW, fCnt, g_len hl2, g_lt, he, decide_true, if_true, g_ix hc hl2, l_hash, l_blank, q35, q32, Bool.not_false, g_inc1]
          exact rw_while n hl hk k (e + 1) m found x y S (by omega) (by omega) (by omega) (by omega) hS
        · rw [decide_eq_false h32] at q32
          rw [if_neg h32]
          have f2_ : (if ([st row, nt e] : List W).length = 2 then frz S.length (callN (n + 3) 2 [st row, nt e] S) else R.bad) = .ok (nt (e + P6.pEnd (c :: row.drop (e + 1)))) S := fcall_same (k_word_end n hd hl hk) rfl
          have hpe := P6.pEnd_le (c :: row.drop (e + 1))
          rw [List.length_cons, List.length_drop] at hpe
          have wd : P6.Wd ((c :: row.drop (e + 1)).take (P6.pEnd (c :: row.drop (e + 1)))) := P6.wd_of
          have wok : okc ((c :: row.drop (e + 1)).take (P6.pEnd (c :: row.drop (e + 1)))) = true := by rw [← hd]; exact okc_cut hk _ _
          have wln : ((c :: row.drop (e + 1)).take (P6.pEnd (c :: row.drop (e + 1)))).length = P6.pEnd (c :: row.drop (e + 1)) := by rw [List.length_take, List.length_cons, List.length_drop]; omega
          have sl : gSlA (st row) (some (e : Int)) (some ((e + P6.pEnd (c :: row.drop (e + 1)) : Nat) : Int)) S = some (st ((c :: row.drop (e + 1)).take (P6.pEnd (c :: row.drop (e + 1)))), S) := by rw [g_sl hl2, Nat.add_sub_cancel_left, hd]
          generalize P6.pEnd (c :: row.drop (e + 1)) = p at f2_ hpe wd wok wln sl ⊢
          generalize (c :: row.drop (e + 1)).take p = w at wd wok wln sl ⊢
          have f7_ : (if ([st w] : List W).length = 1 then frz S.length (callN (n + 3) 7 [st w] S) else R.bad) = .ok (.d (optD (P6.pFault barred w))) S := fcall_same (k_fault_in n wd (by omega) wok) rfl
          cases hw : P6.pFault barred w with
          | some j =>
            rw [hw] at f7_
            have gn : gNotN (nt j) (.d .none) S = some (bt true, S) := rfl
            have rz : fRaise 1 ["line", "column"] (fAc (fVar 2) (fAc (f2 gAdd (fVar 4) (fVar 6)) fA0)) [some (st t), some (.loc l), some (nt line), some (st row), some (nt e), some (nt (e + p)), some (nt j)] S = .exc 1 [("column", nt (e + j)), ("line", nt line)] [some (st t), some (.loc l), some (nt line), some (st row), some (nt e), some (nt (e + p)), some (nt j)] S := rfl
            simp only [fSeq, fAsg, fVar, fC, f1, f2, fL, fAc, fA0, fTest, fAndT, fOrT, fNotT, fTru, fAndV, fOrV, fIfE, fIf, fRet, fAug, fDrop, fSl, fPart, fNoPart, intOf, gtName, R_ok, toS_ok, lift_some, boolW_ok, truR_b, List.getElem?_cons_zero, List.getElem?_cons_succ, List.set_cons_zero, List.set_cons_succ, rW, fCall, fNext, g_len hl2, g_lt, he, decide_true, if_true, g_ix hc hl2, l_hash, l_blank, q35, q32, Bool.not_false, Bool.false_eq_true, if_false, f2_, sl, f7_, optD, gn, rz]
            exact ⟨_, .lst (found.map encTok), by rw [set_same hS]⟩
          | none =>
            rw [hw] at f7_
            have gn : gNotN (.d .none) (.d .none) S = some (bt false, S) := rfl
            have hp : 0 < p := by
              refine Nat.pos_of_ne_zero fun z => ?_
              have e0 : w = [] := List.length_eq_zero_iff.mp (by omega)
              rw [e0] at hw
              simp [P6.pFault] at hw
            have hfl : (found.map encTok).length < lim := by rw [List.length_map]; show found.length < 16777216; omega
            have lv : liveB (.loc l) S = true := by simp only [liveB, hS]
            have ap : mAppend (.loc l) [.d (.tuple [.str (tx w), .int (line : Int), .int (e : Int)])] S = some (.d .none, S.set l (.lst ((found ++ [(w, line, e)]).map encTok))) := by
              simp only [mAppend, hS, hfl, if_true, List.map_append, List.map_cons, List.map_nil, encTok]
            have ih := rw_while n (t := t) (l := l) (line := line) hl hk (k + 1 - p) (e + p) m (found ++ [(w, line, e)]) (some (nt (e + p))) (some (.d .none)) (S.set l (.lst ((found ++ [(w, line, e)]).map encTok))) (by omega) (by omega) (by rw [List.length_append, List.length_singleton]; omega) (by omega) (at_set hS)
            have g3 : gTup [st w, nt line, nt e] S = some (.d (.tuple [.str (tx w), .int (line : Int), .int (e : Int)]), S) := g_tup3
            simp only [fSeq, fAsg, fVar, fC, f1, f2, fL, fAc, fA0, fTest, fAndT, fOrT, fNotT, fTru, fAndV, fOrV, fIfE, fIf, fRet, fAug, fDrop, fSl, fPart, fNoPart, intOf, gtName, R_ok, toS_ok, lift_some, boolW_ok, truR_b, List.getElem?_cons_zero, List.getElem?_cons_succ, List.set_cons_zero, List.set_cons_succ, rW, fCall, fNext, fDrop, fMeth, g_len hl2, g_lt, he, decide_true, if_true, g_ix hc hl2, l_hash, l_blank, q35, q32, Bool.not_false, Bool.false_eq_true, if_false, f2_, sl, f7_, optD, gn, lv, g3, ap]
            rw [List.drop_drop, show e + 1 + (p - 1) = e + p by omega]
            unfold RowOut at ih ⊢
            cases hs : P6.rowScan barred (found ++ [(w, line, e)]) (row.drop (e + p)) line (e + p) with
            | told fs =>
              rw [hs] at ih
              obtain ⟨e2, x2, y2, h2⟩ := ih
              exact ⟨e2, x2, y2, by rw [h2, List.set_set]⟩
            | text a b =>
              rw [hs] at ih
              obtain ⟨ρ, X, h2⟩ := ih
              exact ⟨ρ, X, by rw [h2, List.set_set]⟩
    · have hd : row.drop e = [] := List.drop_of_length_le (by omega)
      rw [hd, P6.rowScan]
      simp only [fSeq, fAsg, fVar, fC, f1, f2, fL, fAc, fA0, fTest, fAndT, fOrT, fNotT, fTru, fAndV, fOrV, fIfE, fIf, fRet, fAug, fDrop, fSl, fPart, fNoPart, intOf, gtName, R_ok, toS_ok, lift_some, boolW_ok, truR_b, List.getElem?_cons_zero, List.getElem?_cons_succ, List.set_cons_zero, List.set_cons_succ, rW, g_len hl2, g_lt, he, decide_false, Bool.false_eq_true, if_false]
      exact ⟨e, x, y, by rw [set_same hS]⟩
end VI
set_option Elab.async false
set_option linter.all false
set_option maxRecDepth 100000
namespace VI
open PySem PySem.Spec PyProof.Rows L2

noncomputable abbrev fbB (call : Calls) : FS := (fSeq (fAsg (fC (.int 0)) (gtName 4)) (fSeq (whileL rwC (rwB call) 1000000) (fAug 2 (gI2 (fun _ _ => true) fun i j => .int (i + j)) (fC (.int 1)))))
def RowsOut (S : Store) (l : Nat) (o : P6.Out) (r : RF) : Prop := match o with
  | .told fs => ∃ ρ, ρ[1]? = some (some (.loc l)) ∧ r = .next ρ (S.set l (.lst (fs.map encTok)))
  | .text a b => ∃ ρ X, r = .exc 1 [("column", nt b), ("line", nt a)] ρ (S.set l X)
theorem told_len : ∀ (n : Nat) (r : List Nat), r.length ≤ n → ∀ (found : List P6.Tok) (line col : Nat) (fs : List P6.Tok), P6.rowScan barred found r line col = .told fs → fs.length ≤ found.length + r.length
  | _, [], _, found, line, col, fs, h => by
    rw [P6.rowScan] at h
    cases h
    exact Nat.le_add_right _ _
  | 0, c :: t, h, _, _, _, _, _ => by simp at h
  | n + 1, c :: t, hn, found, line, col, fs, h => by
    rw [List.length_cons] at hn ⊢
    rw [P6.rowScan] at h
    split at h
    · cases h; omega
    · split at h
      · have := told_len n t (by omega) found line (col + 1) fs h
        omega
      · split at h
        · cases h
        · rename_i q
          have hp : 0 < P6.pEnd (c :: t) := by
            refine Nat.pos_of_ne_zero fun e => ?_
            rw [e] at q
            simp [P6.pFault] at q
          have := told_len n (t.drop (P6.pEnd (c :: t) - 1)) (by rw [List.length_drop]; omega) _ line _ fs h
          rw [List.length_append, List.length_singleton, List.length_drop] at this
          have hl := P6.pEnd_le (c :: t)
          rw [List.length_cons] at hl
          omega
theorem rows_loop (n : Nat) {t : List Nat} {l : Nat} : ∀ (rows : List (List Nat)) (line : Nat) (found : List P6.Tok) (o3 o4 x y : Option W) (S : Store), (∀ r ∈ rows, r.length < 900000 ∧ okc r = true) → found.length + (rows.map (·.length)).sum < 950000 → S[l]? = some (.lst (found.map encTok)) →
    RowsOut S l (P6.rowsScan barred found rows line) (forL (fun _ => True) (gtName 3) (fbB (callN (n + 3))) (rows.map fun r => st r) [some (st t), some (.loc l), some (nt line), o3, o4, x, y] S)
  | [], line, found, o3, o4, x, y, S, _, _, hS => by
    simp only [List.map_nil, forL, if_true, P6.rowsScan]
    exact ⟨_, rfl, by rw [set_same hS]⟩
  | r :: rows, line, found, o3, o4, x, y, S, hr, hz, hS => by
    obtain ⟨hl, hk⟩ := hr r (by simp)
    rw [List.map_cons, List.sum_cons] at hz
    have w := rw_while n (t := t) (l := l) (line := line) hl hk r.length 0 1000000 found x y S (by omega) (by omega) (by omega) (Nat.zero_le _) hS
    rw [List.drop_zero] at w
    unfold RowOut at w
    rw [List.map_cons, P6.rowsScan]
    cases hs : P6.rowScan barred found r line 0 with
    | told fs =>
      rw [hs] at w
      obtain ⟨e, x2, y2, h2⟩ := w
      have h2 : whileL rwC (rwB (callN (n + 3))) 1000000 [some (st t), some (.loc l), some (nt line), some (st r), some (.d (.int 0)), x, y] S = _ := h2
      have fl := told_len r.length r (Nat.le_refl _) found line 0 fs hs
      have ih := rows_loop n (t := t) (l := l) rows (line + 1) fs (some (st r)) (some (nt e)) x2 y2 (S.set l (.lst (fs.map encTok))) (fun q m => hr q (by simp [m])) (by omega) (at_set hS)
      simp only [forL, if_true, fSeq, fAsg, fVar, fC, f1, f2, fL, fAc, fA0, fTest, fAndT, fOrT, fNotT, fTru, fAndV, fOrV, fIfE, fIf, fRet, fAug, fDrop, fSl, fPart, fNoPart, intOf, gtName, R_ok, toS_ok, lift_some, boolW_ok, truR_b, List.getElem?_cons_zero, List.getElem?_cons_succ, List.set_cons_zero, List.set_cons_succ, h2, rW, g_inc1]
      unfold RowsOut at ih ⊢
      cases hq : P6.rowsScan barred fs rows (line + 1) with
      | told gs =>
        rw [hq] at ih
        obtain ⟨ρ, h1, h3⟩ := ih
        exact ⟨ρ, h1, by rw [h3, List.set_set]⟩
      | text a b =>
        rw [hq] at ih
        obtain ⟨ρ, X, h3⟩ := ih
        exact ⟨ρ, X, by rw [h3, List.set_set]⟩
    | text a b =>
      rw [hs] at w
      obtain ⟨ρ, X, h2⟩ := w
      have h2 : whileL rwC (rwB (callN (n + 3))) 1000000 [some (st t), some (.loc l), some (nt line), some (st r), some (.d (.int 0)), x, y] S = _ := h2
      simp only [forL, if_true, fSeq, fAsg, fVar, fC, f1, f2, fL, fAc, fA0, fTest, fAndT, fOrT, fNotT, fTru, fAndV, fOrV, fIfE, fIf, fRet, fAug, fDrop, fSl, fPart, fNoPart, intOf, gtName, R_ok, toS_ok, lift_some, boolW_ok, truR_b, List.getElem?_cons_zero, List.getElem?_cons_succ, List.set_cons_zero, List.set_cons_succ, h2]
      exact ⟨ρ, X, rfl⟩
theorem sum_rows : ∀ rows : List (List Nat), (rows.map (·.length)).sum ≤ (P6.joinR rows).length
  | [] => Nat.le_refl _
  | [r] => by simp [P6.joinR]
  | r :: s :: rs => by
    have h := sum_rows (s :: rs)
    show r.length + ((s :: rs).map (·.length)).sum ≤ (r ++ 10 :: P6.joinR (s :: rs)).length
    rw [List.length_append, List.length_cons]
    omega
/-- words_of, of a text -/
def Words (S : Store) (o : P6.Out) (r : R W) : Prop := match o with
  | .told fs => r = .ok (.loc S.length) (S ++ [.lst (fs.map encTok)])
  | .text a b => ∃ X, r = .exc 1 [("column", nt b), ("line", nt a)] (S ++ [X])
theorem k_words_of (n : Nat) {t : List Nat} {S : Store} (hl : t.length < 900000) (hk : okc t = true) : Words S (P6.scan barred [] t 0 0) (callN (n + 4) 8 [st t] S) := by
  obtain ⟨r1, r2, r3⟩ := spl_rows t [] (by simp)
  rw [List.nil_append] at r3
  have hsc : P6.scan barred [] t 0 0 = P6.rowsScan barred [] (rowsOf t) 0 := by
    have e := P6.scan_rows barred (rowsOf t) r1 r2 [] 0
    rw [r3] at e
    exact e
  rw [hsc]
  have e : callN (n + 4) 8 [st t] S = toRX (b8 (callN (n + 3)) [some (st t), none, none, none, none, none, none] S) := by
    show (if 2 ≤ n + 3 then runX 7 (b8 (callN (n + 3))) [st t] S else .bad) = _
    rw [if_pos (by omega)]
    rfl
  rw [e]
  unfold b8
  have hl2 : t.length + 2 ≤ lim := by show t.length + 2 ≤ 16777216; omega
  have rr : ∀ r ∈ rowsOf t, r.length < 900000 ∧ okc r = true := fun r m => ⟨by have := row_le _ r m; rw [r3] at this; omega, row_okc _ (by rw [r3]; exact hk) r m⟩
  have sr := sum_rows (rowsOf t)
  rw [r3] at sr
  have w := rows_loop n (t := t) (l := S.length) (rowsOf t) 0 [] none none none none (S ++ [.lst []]) rr (by rw [List.length_nil]; omega) push_at
  have gi : gIsiA "str" (st t) S = some (bt true, S) := rfl
  have gl : gLive [] S = some (.loc S.length, S ++ [.lst []]) := rfl
  have hs : seqR (wkS (.d (.list ((rowsOf t).map fun p => .str (tx p)))) (S ++ [.lst []])) (S ++ [.lst []]) = .ok ⟨((rowsOf t).map fun p => PyData.str (tx p)).map W.d, fun _ => True⟩ (S ++ [.lst []]) := rfl
  have ml : ((rowsOf t).map fun p => PyData.str (tx p)).map W.d = (rowsOf t).map fun r => st r := by rw [List.map_map]; rfl
  simp only [fSeq, fAsg, fVar, fC, f1, f2, fL, fAc, fA0, fTest, fAndT, fOrT, fNotT, fTru, fAndV, fOrV, fIfE, fIf, fRet, fAug, fDrop, fSl, fPart, fNoPart, intOf, gtName, R_ok, toS_ok, lift_some, boolW_ok, truR_b, List.getElem?_cons_zero, List.getElem?_cons_succ, List.set_cons_zero, List.set_cons_succ, gi, Bool.not_true, Bool.false_eq_true, if_false, fNext, gl, fFor, fItS, fMethS, l_line, g_rows hl2, hs, ml]
  unfold RowsOut at w
  cases hq : P6.rowsScan barred [] (rowsOf t) 0 with
  | told fs =>
    rw [hq] at w
    obtain ⟨ρ, h1, h2⟩ := w
    rw [set_last] at h2
    have h2 : forL (fun _ => True) (gtName 3) (fbB (callN (n + 3))) ((rowsOf t).map fun r => st r) [some (st t), some (.loc S.length), some (.d (.int 0)), none, none, none, none] (S ++ [.lst []]) = _ := h2
    show _ = _
    simp only [h2, h1, toS_ok]
    rfl
  | text a b =>
    rw [hq] at w
    obtain ⟨ρ, X, h2⟩ := w
    rw [set_last] at h2
    have h2 : forL (fun _ => True) (gtName 3) (fbB (callN (n + 3))) ((rowsOf t).map fun r => st r) [some (st t), some (.loc S.length), some (.d (.int 0)), none, none, none, none] (S ++ [.lst []]) = _ := h2
    refine ⟨X, ?_⟩
    simp only [h2]
    rfl
/-- .. of anything else -/
theorem k_words_odd (n : Nat) {w : W} {S : Store} (h : gIsiA "str" w S = some (bt false, S)) : callN (n + 4) 8 [w] S = .exc 3 [("place", .d (.int 0))] S := by
  have e : callN (n + 4) 8 [w] S = toRX (b8 (callN (n + 3)) [some w, none, none, none, none, none, none] S) := by
    show (if 2 ≤ n + 3 then runX 7 (b8 (callN (n + 3))) [w] S else .bad) = _
    rw [if_pos (by omega)]
    rfl
  rw [e]
  unfold b8
  have rz : fRaise 3 ["place"] (fAc (fC (.int 0)) fA0) [some w, none, none, none, none, none, none] S = .exc 3 [("place", .d (.int 0))] [some w, none, none, none, none, none, none] S := rfl
  simp only [fSeq, fAsg, fVar, fC, f1, f2, fL, fAc, fA0, fTest, fAndT, fOrT, fNotT, fTru, fAndV, fOrV, fIfE, fIf, fRet, fAug, fDrop, fSl, fPart, fNoPart, intOf, gtName, R_ok, toS_ok, lift_some, boolW_ok, truR_b, List.getElem?_cons_zero, List.getElem?_cons_succ, List.set_cons_zero, List.set_cons_succ, h, Bool.not_false, if_true, rz]
  rfl
/-- _law_heard, of a text -/
theorem k_heard (n : Nat) {t : List Nat} {S : Store} (hl : t.length < 900000) (hk : okc t = true) : Told S (P6.scan barred [] t 0 0) (callN (n + 5) 21 [st t] S) := by
  have e : callN (n + 5) 21 [st t] S = toR (b21 (callN (n + 4)) [some (st t), none] S) := rfl
  rw [e]
  unfold b21
  have w := k_words_of n hl hk (S := S)
  unfold Words at w
  cases hs : P6.scan barred [] t 0 0 with
  | told fs =>
    rw [hs] at w
    show _ = _
    have f8 : (if ([st t] : List W).length = 1 then callN (n + 4) 8 [st t] S else R.bad) = .ok (.loc S.length) (S ++ [.lst (fs.map encTok)]) := (if_pos (show ([st t] : List W).length = 1 from rfl)).trans w
    have gt : gTup [.d (.str "told"), .loc S.length] (S ++ [.lst (fs.map encTok)]) = some (.tp [.d (.str "told"), .loc S.length], S ++ [.lst (fs.map encTok)]) := rfl
    simp only [fTryN, fSeq, fAsg, fVar, fC, f1, f2, fL, fAc, fA0, fTest, fAndT, fOrT, fNotT, fTru, fAndV, fOrV, fIfE, fIf, fRet, fAug, fDrop, fSl, fPart, fNoPart, intOf, gtName, R_ok, toS_ok, lift_some, boolW_ok, truR_b, List.getElem?_cons_zero, List.getElem?_cons_succ, List.set_cons_zero, List.set_cons_succ, fCallL, f8, gt, toR]
  | text a b =>
    rw [hs] at w
    obtain ⟨X, w⟩ := w
    refine ⟨X, ?_⟩
    have f8 : (if ([st t] : List W).length = 1 then callN (n + 4) 8 [st t] S else R.bad) = .exc 1 [("column", nt b), ("line", nt a)] (S ++ [X]) := (if_pos (show ([st t] : List W).length = 1 from rfl)).trans w
    have bx : ∀ {α β : Type} {c : Nat} {fs : List (Str × W)} {S : Store} {k : α → Store → R β}, (R.exc c fs S : R α).bind k = .exc c fs S := rfl
    have sx : ∀ {α : Type} {c : Nat} {fs : List (Str × W)} {S : Store} {ρ : Rho} {k : α → Store → RF}, toS ρ (R.exc c fs S : R α) k = .exc c fs ρ S := rfl
    simp only [fTryN, fSeq, fAsg, fVar, fC, f1, f2, fL, fAc, fA0, fTest, fAndT, fOrT, fNotT, fTru, fAndV, fOrV, fIfE, fIf, fRet, fAug, fDrop, fSl, fPart, fNoPart, intOf, gtName, R_ok, toS_ok, lift_some, boolW_ok, truR_b, List.getElem?_cons_zero, List.getElem?_cons_succ, List.set_cons_zero, List.set_cons_succ, fCallL, f8, bx, sx]
    rfl
theorem k_heard_odd (n : Nat) {w : W} {S : Store} (h : gIsiA "str" w S = some (bt false, S)) : callN (n + 5) 21 [w] S = .ok (.d (.tuple [.str "wrong", .int 0])) S := by
  have e : callN (n + 5) 21 [w] S = toR (b21 (callN (n + 4)) [some w, none] S) := rfl
  rw [e]
  unfold b21
  have f8 : (if ([w] : List W).length = 1 then callN (n + 4) 8 [w] S else R.bad) = .exc 3 [("place", .d (.int 0))] S := (if_pos (show ([w] : List W).length = 1 from rfl)).trans (k_words_odd n h)
  have bx : ∀ {α β : Type} {c : Nat} {fs : List (Str × W)} {S : Store} {k : α → Store → R β}, (R.exc c fs S : R α).bind k = .exc c fs S := rfl
  have sx : ∀ {α : Type} {c : Nat} {fs : List (Str × W)} {S : Store} {ρ : Rho} {k : α → Store → RF}, toS ρ (R.exc c fs S : R α) k = .exc c fs ρ S := rfl
  simp only [fTryN, fSeq, fAsg, fVar, fC, f1, f2, fL, fAc, fA0, fTest, fAndT, fOrT, fNotT, fTru, fAndV, fOrV, fIfE, fIf, fRet, fAug, fDrop, fSl, fPart, fNoPart, intOf, gtName, R_ok, toS_ok, lift_some, boolW_ok, truR_b, List.getElem?_cons_zero, List.getElem?_cons_succ, List.set_cons_zero, List.set_cons_succ, fCallL, f8, bx, sx]
  rfl
end VI
set_option Elab.async false
set_option linter.all false
set_option maxRecDepth 100000
namespace VI
open PySem PySem.Spec PyProof.Rows L2

/-! alike -/
structure Fine (d : PyData) : Prop where
  sh : SeqAt.shaped d = true
  sw : d.showable = true
  ln : d.shown.length ≤ lim
theorem gEq_same {w u : W} {d : PyData} {S : Store} (hw : asD w S = some d) (hu : asD u S = some d) (h : SeqAt.shaped d = true) : gEq w u S = some (bt true, S) := by
  have eD : gEqD w u S = some (bt true, S) := by
    unfold gEqD
    rw [hw, hu]
    show (if SeqAt.shaped d = true ∧ SeqAt.shaped d = true then some (bt (PyData.eqv d d), S) else none) = _
    rw [if_pos ⟨h, h⟩, SeqAt.eqv_refl d (SeqAt.canLay_of_shaped h)]
  unfold gEq
  cases e : gEqS w u S with
  | none => exact eD
  | some p =>
    unfold gEqS at e
    split at e
    · rename_i x y
      rw [asD] at hw hu
      cases hw
      cases hu
      rw [beq_self_eq_true] at e
      cases e
      rfl
    · cases e
theorem gRepr_fine {w : W} {d : PyData} {S : Store} (hw : asD w S = some d) (h : Fine d) : gRepr [w] S = some (.d (.str d.shown), S) := by
  show (match asD w S with | some d => if d.showable = true ∧ d.hasDict = false ∧ d.depth ≤ 64 ∧ d.shown.length ≤ lim then some (W.d (.str d.shown), S) else none | none => none) = _
  rw [hw]
  show (if d.showable = true ∧ d.hasDict = false ∧ d.depth ≤ 64 ∧ d.shown.length ≤ lim then some (W.d (.str d.shown), S) else none) = _
  rw [if_pos ⟨h.sw, noD_of h.sh, SeqAt.depth_of_shaped h.sh, h.ln⟩]
theorem k_alike (n : Nat) {w u : W} {d : PyData} {S : Store} (hw : asD w S = some d) (hu : asD u S = some d) (h : Fine d) : callN (n + 1) 12 [w, u] S = .ok (bt true) S := by
  show toR (b12 (callN n) [some w, some u] S) = _
  unfold b12
  have q : gEq (.d (.str d.shown)) (.d (.str d.shown)) S = some (bt true, S) := by
    show some (bt (d.shown == d.shown), S) = _
    rw [beq_self_eq_true]
  simp only [fSeq, fAsg, fVar, fC, f1, f2, fL, fAc, fA0, fTest, fAndT, fOrT, fNotT, fTru, fAndV, fOrV, fIfE, fIf, fRet, fAug, fDrop, fSl, fPart, fNoPart, intOf, gtName, R_ok, toS_ok, lift_some, boolW_ok, truR_b, List.getElem?_cons_zero, List.getElem?_cons_succ, List.set_cons_zero, List.set_cons_succ, gEq_same hw hu h.sh, gRepr_fine hw h, gRepr_fine hu h, q, toR]

/-! what a scan's words are like -/
structure TokOk (N : Nat) (x : P6.Tok) : Prop where
  ok : okc x.1 = true
  ln : x.1.length ≤ N
  li : x.2.1 ≤ N
  co : x.2.2 ≤ N
def OutOk (N m : Nat) : P6.Out → Prop
  | .told fs => fs.length ≤ m ∧ ∀ x ∈ fs, TokOk N x
  | .text a b => a ≤ N ∧ b ≤ 2 * N + 2
theorem lw_none {c : Nat} {t : List Nat} {k : Nat} (h : P6.lWord barred (c :: t) = (none, k)) : k ≤ t.length + 2 := by
  have hl : ((c :: t).takeWhile P6.isN).length ≤ t.length + 1 := tl_le P6.isN (c :: t)
  unfold P6.lWord at h
  repeat' split at h
  all_goals try (have e := ‹c :: t = _ :: _›; cases e)
  all_goals first | (cases h; omega) | cases h
theorem scan_ok (N m : Nat) : ∀ (n : Nat) (cs : List Nat), cs.length ≤ n → ∀ (found : List P6.Tok) (line col : Nat), okc cs = true → found.length + cs.length ≤ m → line + cs.length ≤ N → col + cs.length ≤ N → (∀ x ∈ found, TokOk N x) → OutOk N m (P6.scan barred found cs line col)
  | _, [], _, found, line, col, _, hm, _, _, hf => by
    rw [P6.scan]
    exact ⟨by simpa using hm, hf⟩
  | 0, c :: t, h, _, _, _, _, _, _, _, _ => by simp at h
  | n + 1, c :: t, hn, found, line, col, hk, hm, hl, hc, hf => by
    rw [List.length_cons] at hn hm hl hc
    have hkt : okc t = true := okc_sub hk fun d m => List.mem_cons_of_mem _ m
    rw [P6.scan]
    split
    · exact scan_ok N m n t (by omega) found (line + 1) 0 hkt (by omega) (by omega) (by omega) hf
    · split
      · have hd : t.dropWhile (· != 10) = t.drop (t.takeWhile (· != 10)).length := dw_drop _ t
        have hw := tl_le (· != 10) t
        have hld : (t.drop (t.takeWhile (· != 10)).length).length = t.length - (t.takeWhile (· != 10)).length := List.length_drop
        rw [hd]
        exact scan_ok N m n (t.drop (t.takeWhile (· != 10)).length) (by omega) found line (col + 1 + (t.takeWhile (· != 10)).length) (okc_sub hkt fun d m => List.mem_of_mem_drop m) (by omega) (by omega) (by omega) hf
      · split
        · exact scan_ok N m n t (by omega) found line (col + 1) hkt (by omega) (by omega) (by omega) hf
        · cases hw : P6.lWord barred (c :: t) with
          | mk o k =>
            cases o with
            | none =>
              have := lw_none hw
              exact ⟨by omega, by show col + k ≤ _; omega⟩
            | some w =>
              obtain ⟨w1, w2, w3⟩ := lw_some hw
              have hwk : okc w = true := by rw [w2]; exact okc_sub hk fun d m => List.mem_of_mem_take m
              have hld : (t.drop (w.length - 1)).length = t.length - (w.length - 1) := List.length_drop
              refine scan_ok N m n (t.drop (w.length - 1)) (by omega) (found ++ [(w, line, col)]) line (col + w.length) (okc_sub hkt fun d m => List.mem_of_mem_drop m) (by rw [List.length_append, List.length_singleton]; omega) (by omega) (by omega) fun x hx => ?_
              rcases List.mem_append.mp hx with hx | hx
              · exact hf x hx
              · rw [List.mem_singleton.mp hx]
                exact ⟨hwk, by show w.length ≤ N; omega, by show line ≤ N; omega, by show col ≤ N; omega⟩
theorem lay_toks {N : Nat} : ∀ fs : List P6.Tok, (∀ x ∈ fs, TokOk N x) → PyData.canLayAll0 (fs.map encTok) = true
  | [], _ => rfl
  | x :: fs, h => by
    have e : PyData.canLayAll0 ((x :: fs).map encTok) = ((PyData.strOk (tx x.1) && true) && PyData.canLayAll0 (fs.map encTok)) := rfl
    rw [e, strOk_tx (h x (by simp)).ok, lay_toks fs fun y m => h y (by simp [m])]
    rfl
theorem depth_toks : ∀ fs : List P6.Tok, PyData.depthAll (fs.map encTok) ≤ 1
  | [] => Nat.zero_le _
  | x :: fs => by
    have e : PyData.depthAll ((x :: fs).map encTok) = max 1 (PyData.depthAll (fs.map encTok)) := rfl
    rw [e]
    exact Nat.max_le.mpr ⟨Nat.le_refl _, depth_toks fs⟩
theorem log_small {k : Nat} (h : k < 1073741824) : decide ((k : Int).natAbs.log2 < 1920) = true := by
  rw [Int.natAbs_natCast]
  refine decide_eq_true ?_
  by_cases z : k = 0
  · subst z; decide
  · have : k.log2 < 30 := (Nat.log2_lt z).mpr h
    omega
theorem show_toks {N : Nat} (hN : N < 100000) : ∀ fs : List P6.Tok, (∀ x ∈ fs, TokOk N x) → PyData.showableAll (fs.map encTok) = true
  | [], _ => rfl
  | x :: fs, h => by
    have hx := h x (by simp)
    have h1 := hx.li
    have h2 := hx.co
    have e : PyData.showableAll ((x :: fs).map encTok) = ((true && (decide ((x.2.1 : Int).natAbs.log2 < 1920) && (decide ((x.2.2 : Int).natAbs.log2 < 1920) && true))) && PyData.showableAll (fs.map encTok)) := rfl
    rw [e, log_small (by omega), log_small (by omega), show_toks hN fs fun y m => h y (by simp [m])]
    rfl
theorem leaf_int {k : Nat} (h : k < 999999999999) : decide ((PyData.shown (.int (k : Int))).length ≤ 13) = true := decide_eq_true (PyData.shown_int_le2 (by omega) (by omega))
theorem leaf_str {a : List Nat} (h : okc a = true) : PyData.leavesShort 13 (.str (tx a)) = true := by
  have e : PyData.leavesShort 13 (.str (tx a)) = (tx a).cps.toList.all (fun c => decide (c < 16 ^ 8)) := rfl
  rw [e]
  refine List.all_eq_true.mpr fun c m => ?_
  have := List.all_eq_true.mp h c m
  rw [decide_eq_true_eq] at this
  exact decide_eq_true (by have : (16 : Nat) ^ 8 = 4294967296 := by decide
                           omega)
theorem leaf_toks {N : Nat} (hN : N < 100000) : ∀ fs : List P6.Tok, (∀ x ∈ fs, TokOk N x) → PyData.leavesShortAll 13 (fs.map encTok) = true
  | [], _ => rfl
  | x :: fs, h => by
    have hx := h x (by simp)
    have h1 := hx.li
    have h2 := hx.co
    have e : PyData.leavesShortAll 13 ((x :: fs).map encTok) = ((PyData.leavesShort 13 (.str (tx x.1)) && (decide ((PyData.shown (.int (x.2.1 : Int))).length ≤ 13) && (decide ((PyData.shown (.int (x.2.2 : Int))).length ≤ 13) && true))) && PyData.leavesShortAll 13 (fs.map encTok)) := rfl
    rw [e, leaf_str hx.ok, leaf_int (by omega), leaf_int (by omega), leaf_toks hN fs fun y m => h y (by simp [m])]
    rfl
theorem bulk_toks {N : Nat} : ∀ fs : List P6.Tok, (∀ x ∈ fs, TokOk N x) → PyData.bulkAll (fs.map encTok) ≤ fs.length * (N + 4)
  | [], _ => Nat.zero_le _
  | x :: fs, h => by
    have hx := (h x (by simp)).ln
    have ih := bulk_toks fs fun y m => h y (by simp [m])
    have e : PyData.bulkAll ((x :: fs).map encTok) = (x.1.length + 1 + (0 + 1 + (0 + 1 + 0))) + 1 + PyData.bulkAll (fs.map encTok) := by
      show ((tx x.1).cps.size + 1 + (0 + 1 + (0 + 1 + 0))) + 1 + PyData.bulkAll (fs.map encTok) = _
      have : (tx x.1).cps.size = x.1.length := len_tx x.1
      rw [this]
    rw [e, List.length_cons, Nat.succ_mul]
    omega
theorem fine_out {N : Nat} {o : P6.Out} (hN : N ≤ 600) (h : OutOk N N o) : Fine (encOut o) := by
  cases o with
  | told fs =>
    obtain ⟨h1, h2⟩ := h
    refine ⟨?_, ?_, ?_⟩
    · unfold SeqAt.shaped
      have e : PyData.canLay0 (encOut (.told fs)) = (PyData.strOk "told" && (PyData.canLayAll0 (fs.map encTok) && true)) := rfl
      have e2 : PyData.depth (encOut (.told fs)) = max 0 (max (PyData.depthAll (fs.map encTok) + 1) 0) + 1 := rfl
      have d := depth_toks fs
      rw [e, lay_toks fs h2, show PyData.strOk "told" = true by decide +kernel]
      rw [Bool.and_true, Bool.true_and]
      exact decide_eq_true (by rw [e2]; omega)
    · have e : PyData.showable (encOut (.told fs)) = (true && (PyData.showableAll (fs.map encTok) && true)) := rfl
      rw [e, show_toks (by omega) fs h2]
      rfl
    · have b := PyData.shown_le_bulk 13 (by decide) (encOut (.told fs)) (by
        have e : PyData.leavesShort 13 (encOut (.told fs)) = (PyData.leavesShort 13 (.str "told") && (PyData.leavesShortAll 13 (fs.map encTok) && true)) := rfl
        rw [e, leaf_toks (by omega) fs h2, show PyData.leavesShort 13 (.str "told") = true by decide +kernel]
        rfl)
      have e2 : PyData.bulk (encOut (.told fs)) = 4 + 1 + (PyData.bulkAll (fs.map encTok) + 1 + 0) := by
        show ("told" : Str).cps.size + 1 + (PyData.bulkAll (fs.map encTok) + 1 + 0) = _
        rw [show ("told" : Str).cps.size = 4 by decide +kernel]
      have bt_ := bulk_toks fs h2
      have hb : fs.length * (N + 4) ≤ 600 * 604 := Nat.mul_le_mul (by omega) (by omega)
      show _ ≤ 16777216
      omega
  | text a b =>
    obtain ⟨h1, h2⟩ := h
    refine ⟨?_, ?_, ?_⟩
    · unfold SeqAt.shaped
      have e : PyData.canLay0 (encOut (.text a b)) = (PyData.strOk "text" && (true && (true && true))) := rfl
      rw [e, show PyData.strOk "text" = true by decide +kernel]
      rfl
    · have e : PyData.showable (encOut (.text a b)) = (true && (decide ((a : Int).natAbs.log2 < 1920) && (decide ((b : Int).natAbs.log2 < 1920) && true))) := rfl
      rw [e, log_small (by omega), log_small (by omega)]
      rfl
    · have bb := PyData.shown_le_bulk 13 (by decide) (encOut (.text a b)) (by
        have e : PyData.leavesShort 13 (encOut (.text a b)) = (PyData.leavesShort 13 (.str "text") && (decide ((PyData.shown (.int (a : Int))).length ≤ 13) && (decide ((PyData.shown (.int (b : Int))).length ≤ 13) && true))) := rfl
        rw [e, leaf_int (by omega), leaf_int (by omega), show PyData.leavesShort 13 (.str "text") = true by decide +kernel]
        rfl)
      have e2 : PyData.bulk (encOut (.text a b)) = 4 + 1 + (0 + 1 + (0 + 1 + 0)) := by
        show ("text" : Str).cps.size + 1 + (0 + 1 + (0 + 1 + 0)) = _
        rw [show ("text" : Str).cps.size = 4 by decide +kernel]
      show _ ≤ 16777216
      omega
end VI
set_option Elab.async false
set_option linter.all false
set_option maxRecDepth 100000
namespace VI
open PySem PySem.Spec PyProof.Rows L2

/-! drawing -/
/-- the bag lies at l, at most N numbers were taken -/
def BG (S : Store) (l N : Nat) : Prop := ∃ b : Bag, S[l]? = some b.so ∧ b.Fit ∧ b.b2 ≤ N
theorem BG.lt {S : Store} {l N : Nat} (h : BG S l N) : l < S.length := by
  obtain ⟨b, h, _⟩ := h
  exact (List.getElem?_eq_some_iff.mp h).1
theorem BG.mono {S : Store} {l N M : Nat} (h : BG S l N) (m : N ≤ M) : BG S l M := by
  obtain ⟨b, h1, h2, h3⟩ := h
  exact ⟨b, h1, h2, by omega⟩
theorem BG.of {S S' : Store} {l N : Nat} (h : BG S l N) (e : S'[l]? = S[l]?) : BG S' l N := by
  obtain ⟨b, h1, h2, h3⟩ := h
  exact ⟨b, by rw [e]; exact h1, h2, h3⟩
theorem BG.push {S : Store} {l N : Nat} (h : BG S l N) (o : SO) : BG (S ++ [o]) l N := h.of (List.getElem?_append_left h.lt)
theorem BG.take {S : Store} {l N n : Nat} (h : BG S l N) (m : l < n) : BG (S.take n) l N := h.of (List.getElem?_take_of_lt m)
theorem BG.setne {S : Store} {l N j : Nat} {o : SO} (h : BG S l N) (m : j ≠ l) : BG (S.set j o) l N := h.of (List.getElem?_set_ne m)
/-- a call that leaves as many live objects -/
theorem fcall_len {n : Nat} {g : List W → Store → R W} {ws : List W} {S S' : Store} {x : PyData} (eg : g ws S = .ok (.d x) S') (hz : S'.length = S.length) (hn : ws.length = n) : (if ws.length = n then frz S.length (g ws S) else R.bad) = .ok (.d x) S' := by
  rw [if_pos hn, eg]
  show R.ok _ (S'.take S.length) = _
  rw [List.take_of_length_le (by omega)]
theorem k_take (n : Nat) {S : Store} {l N : Nat} {m : Int} (hb : BG S l N) (hN : N < 2 ^ 59) (hm : 0 < m ∧ m < 1073741824) :
    ∃ v S', callN (n + 1) 10 [.loc l, .d (.int m)] S = .ok (.d (.int v)) S' ∧ (0 ≤ v ∧ v < m) ∧ S'.length = S.length ∧ BG S' l (N + 1) ∧ ∀ j, j ≠ l → S'[j]? = S[j]? := by
  obtain ⟨b, h1, h2, h3⟩ := hb
  have T : Taker (callN (n + 1) 10) := fun S l b m h1 h2 h3 h4 => taker S l b m h1 h2 h3 h4
  refine ⟨_, _, T S l b m h1 h2 (by omega) hm, take_facts b hm.1, List.length_set .., ⟨_, at_set h1, (take_fit h2 m).1, ?_⟩, fun j hj => List.getElem?_set_ne (Ne.symm hj)⟩
  have := (take_fit h2 m).2
  omega
theorem k_some (n : Nat) {S : Store} {l N : Nat} {ds : List PyData} (hb : BG S l N) (hN : N < 2 ^ 59) (hd : 0 < ds.length ∧ ds.length < 1073741824) :
    ∃ x S', x ∈ ds ∧ callN (n + 2) 11 [.loc l, .d (.list ds)] S = .ok (.d x) S' ∧ S'.length = S.length ∧ BG S' l (N + 1) ∧ ∀ j, j ≠ l → S'[j]? = S[j]? := by
  obtain ⟨b, h1, h2, h3⟩ := hb
  have T : Taker (callN (n + 1) 10) := fun S l b m h1 h2 h3 h4 => taker S l b m h1 h2 h3 h4
  refine ⟨pick b ds, _, pick_mem hd.1, some_run T h1 h2 (by omega) hd, List.length_set .., ⟨_, at_set h1, (take_fit h2 _).1, ?_⟩, fun j hj => List.getElem?_set_ne (Ne.symm hj)⟩
  have := (take_fit h2 (ds.length : Int)).2
  omega
/-- _law_bag -/
theorem noX_ok {α : Type} {a : α} {S : Store} : noX (R.ok a S) = R.ok a S := rfl
theorem bag_loop {l : Nat} : ∀ (zs : List Int) (acc : List PyData) (ρ : Rho) (S : Store), ρ.length = 2 → S[l]? = some (.lst acc) → acc.length + zs.length < lim →
    lcL (fun _ => True) (gtName 1) fYes (fL gAbs (fAc (fVar 1) fA0)) ρ l (zs.map fun z => W.d (.int z)) S = .ok (.loc l) (S.set l (.lst (acc ++ zs.map fun z => .int (if z < 0 then -z else z))))
  | [], acc, ρ, S, hr, hS, _ => by
    simp only [List.map_nil, lcL, if_true, List.append_nil]
    rw [set_same hS]
  | z :: zs, acc, ρ, S, hr, hS, hz => by
    rw [List.length_cons] at hz
    have ea : fL gAbs (fAc (fVar 1) fA0) (ρ.set 1 (some (.d (.int z)))) S = .ok (.d (.int (if z < 0 then -z else z))) S := ev_L (ev_one (ev_var (List.getElem?_set_self (by omega)))) rfl
    have pt : lcPut l (.d (.int (if z < 0 then -z else z))) S = some (S.set l (.lst (acc ++ [.int (if z < 0 then -z else z)]))) := by
      simp only [lcPut, hS, if_pos (show acc.length < lim by omega)]
    have ih := bag_loop (l := l) zs (acc ++ [.int (if z < 0 then -z else z)]) ρ (S.set l (.lst (acc ++ [.int (if z < 0 then -z else z)]))) hr (at_set hS) (by rw [List.length_append, List.length_singleton]; omega)
    have fz : frz S.length (.ok (.d (.int (if z < 0 then -z else z))) S : R W) = .ok (.d (.int (if z < 0 then -z else z))) S := by
      show R.ok _ (S.take S.length) = _
      rw [List.take_length]
    rw [List.map_cons, lcL, if_pos trivial]
    simp only [gtName, noX_ok, fYes, R_ok, if_true, ea, fz, pt]
    rw [ih, List.set_set, List.append_assoc]
    rfl
theorem k_bag (n : Nat) {ns : List Int} (h : ns.length ≤ 63) : ∃ b : Bag, callN (n + 1) 9 [scriptW ns] [] = .ok (.loc 0) [b.so] ∧ b.Fit ∧ b.b2 = 0 := by
  refine ⟨⟨0, 1234567891, 0, (ns.take 63).map fun z => if z < 0 then -z else z⟩, ?_, ⟨(by show (0 : Int) ≤ 1234567891 ∧ (1234567891 : Int) < 2147483647; decide), ?_⟩, rfl⟩
  · show toR (b9 (callN n) [some (scriptW ns), none] []) = _
    unfold b9
    have sl : gSlA (scriptW ns) none (some 63) [] = some (.d (.list ((ns.take 63).map PyData.int)), []) := by
      show some (W.d (.list (cutG (ns.map PyData.int) none (some 63))), ([] : Store)) = _
      have e : cutG (ns.map PyData.int) none (some 63) = (ns.take 63).map PyData.int := by
        unfold cutG
        have e1 : HT.sIx (ns.map PyData.int).length (ns.map PyData.int).length (some (63 : Int)) = min 63 (ns.map PyData.int).length := HT.sIx_nat _ _ 63
        rw [HT.sIx_none, List.drop_zero, e1, Nat.sub_zero, List.map_take, List.length_map, ← List.length_map (f := PyData.int), ← List.take_eq_take_min]
      rw [e]
    have lp := bag_loop (l := 0) (ns.take 63) [] [some (scriptW ns), none] [.lst []] rfl rfl (by rw [List.length_take, List.length_nil]; show 0 + min 63 ns.length < 16777216; omega)
    have it : fItS (fSl gSlA (fVar 0) fNoPart (fPart (fC (.int 63)))) [some (scriptW ns), none] [] = .ok ⟨((ns.take 63).map PyData.int).map W.d, fun _ => True⟩ [] := by
      simp only [fItS, fSeq, fAsg, fVar, fC, f1, f2, fL, fAc, fA0, fTest, fAndT, fOrT, fNotT, fTru, fAndV, fOrV, fIfE, fIf, fRet, fAug, fDrop, fSl, fPart, fNoPart, intOf, gtName, R_ok, toS_ok, lift_some, boolW_ok, truR_b, List.getElem?_cons_zero, List.getElem?_cons_succ, List.set_cons_zero, List.set_cons_succ, sl]
      rfl
    have mm : ((ns.take 63).map PyData.int).map W.d = (ns.take 63).map fun z => W.d (.int z) := by rw [List.map_map]; rfl
    have wp : wipeR [some (scriptW ns), none] [1] = [some (scriptW ns), none] := rfl
    have lc : fLc (fItS (fSl gSlA (fVar 0) fNoPart (fPart (fC (.int 63))))) (gtName 1) fYes (fL gAbs (fAc (fVar 1) fA0)) [1] [some (scriptW ns), none] [] = .ok (.d (.list ((ns.take 63).map fun z => .int (if z < 0 then -z else z)))) [] := by
      unfold fLc fLcL
      rw [it]
      show frz 0 (lcL _ _ _ _ (wipeR [some (scriptW ns), none] [1]) 0 (((ns.take 63).map PyData.int).map W.d) [.lst []]) = _
      rw [mm, wp, lp]
      rfl
    simp only [fSeq, fAsg, fVar, fC, f1, f2, fL, fAc, fA0, fTest, fAndT, fOrT, fNotT, fTru, fAndV, fOrV, fIfE, fIf, fRet, fAug, fDrop, fSl, fPart, fNoPart, intOf, gtName, R_ok, toS_ok, lift_some, boolW_ok, truR_b, List.getElem?_cons_zero, List.getElem?_cons_succ, List.set_cons_zero, List.set_cons_succ, lc]
    show toR (RF.ret (.loc 0) [.lst [.int 0, .int 1234567891, .int 0, .list ((ns.take 63).map fun z => PyData.int (if z < 0 then -z else z))]]) = _
    show R.ok _ _ = R.ok _ [SO.lst [.int 0, .int 1234567891, .int ((0 : Nat) : Int), .list (((ns.take 63).map fun z => if z < 0 then -z else z).map PyData.int)]]
    rw [List.map_map]
    rfl
  · show ((ns.take 63).map _).length < 1000
    rw [List.length_map, List.length_take]
    omega
end VI
set_option Elab.async false
set_option linter.all false
set_option maxRecDepth 100000
namespace VI
open PySem PySem.Spec PyProof.Rows L2

theorem fcall_at {n : Nat} {g : List W → Store → R W} {fa : FA} {ρ : Rho} {S S1 S' : Store} {ws : List W} {x : PyData} (ea : fa ρ S = .ok ws S1) (eg : g ws S1 = .ok (.d x) S') (hz : S'.length = S1.length) (hn : ws.length = n) : fCall n g fa ρ S = .ok (.d x) S' := by
  unfold fCall
  rw [ea]
  exact fcall_len eg hz hn
/-- one of a live list -/
theorem k_someL (n : Nat) {S : Store} {l j N : Nat} {ds : List PyData} (hb : BG S l N) (hN : N < 2 ^ 59) (hj : j ≠ l) (hS : S[j]? = some (.lst ds)) (hd : 0 < ds.length ∧ ds.length < 1073741824) :
    ∃ x S', x ∈ ds ∧ callN (n + 2) 11 [.loc l, .loc j] S = .ok (.d x) S' ∧ S'.length = S.length ∧ BG S' l (N + 1) ∧ ∀ i, i ≠ l → S'[i]? = S[i]? := by
  obtain ⟨v, S', e, hv, hz, hb', ho⟩ := k_take n (m := ds.length) hb hN ⟨by omega, by omega⟩
  have hv2 : v.toNat < ds.length := by omega
  refine ⟨ds[v.toNat], S', List.getElem_mem hv2, ?_, hz, hb', ho⟩
  show toR (b11 (callN (n + 1)) [some (.loc l), some (.loc j)] S) = _
  unfold b11
  have gl : gLen [.loc j] S = some (.d (.int ds.length), S) := by
    show (match asSeq (.loc j) S with | some xs => some (W.d (.int xs.length), S) | none => none) = _
    have e2 : asSeq (.loc j) S = some ds := by simp only [asSeq, hS]
    rw [e2]
  have f10 : fCall 2 (callN (n + 1) 10) (fAc (fVar 0) (fAc (fL gLen (fAc (fVar 1) fA0)) fA0)) [some (.loc l), some (.loc j)] S = .ok (.d (.int v)) S' :=
    fcall_at (ws := [.loc l, .d (.int ds.length)]) (by simp only [fSeq, fAsg, fVar, fC, f1, f2, fL, fAc, fA0, fTest, fAndT, fOrT, fNotT, fTru, fAndV, fOrV, fIfE, fIf, fRet, fAug, fDrop, fSl, fPart, fNoPart, intOf, gtName, R_ok, toS_ok, lift_some, boolW_ok, truR_b, List.getElem?_cons_zero, List.getElem?_cons_succ, List.set_cons_zero, List.set_cons_succ, gl]) e hz rfl
  have gx : gIx (.loc j) (.d (.int v)) S' = some (.d ds[v.toNat], S') := by
    have e2 : asSeq (.loc j) S' = some ds := by simp only [asSeq, ho j hj, hS]
    show (match asSeq (.loc j) S' with | some xs => (atI xs v).map fun x => (W.d x, S') | none => _) = _
    rw [e2]
    show ((atI ds v).map fun x => (W.d x, S')) = _
    rw [atI_in hv.1 hv.2, List.getElem?_eq_getElem hv2]
    rfl
  simp only [f2, fRet, fVar, List.getElem?_cons_zero, List.getElem?_cons_succ, R_ok, toS_ok, f10, gx, lift_some, toR]
/-- a text that may be drawn -/
def goodW : PyData → Bool
  | .str s => okc s.cps.toList && decide (s.cps.size ≤ 41)
  | _ => false
theorem goodW_at {x : PyData} (h : goodW x = true) : ∃ a, x = .str (tx a) ∧ okc a = true ∧ a.length ≤ 41 := by
  cases x with
  | str s =>
    have h2 : (okc s.cps.toList && decide (s.cps.size ≤ 41)) = true := h
    rw [Bool.and_eq_true, decide_eq_true_eq] at h2
    exact ⟨s.cps.toList, by rw [show tx s.cps.toList = s from SX.S_tl s], h2.1, by rw [Array.length_toList]; exact h2.2⟩
  | _ => cases h
theorem goodW_of {a : List Nat} (h : okc a = true) (l : a.length ≤ 41) : goodW (.str (tx a)) = true := by
  show (okc a && decide ((tx a).cps.size ≤ 41)) = true
  rw [h, show (tx a).cps.size = a.length from len_tx a, decide_eq_true l]
  rfl
theorem all_mem {L : List PyData} {p : PyData → Bool} (h : L.all p = true) {x : PyData} (m : x ∈ L) : p x = true := List.all_eq_true.mp h x m
def nearM : List PyData := [.str "", .str "M."]
def nearB : List PyData := barred.map fun b => .str (tx b)
theorem good_M : nearM.all (fun x => goodW x && match x with | .str s => decide (s.cps.size ≤ 2) | _ => false) = true := by decide +kernel
theorem good_B : nearB.all (fun x => goodW x && match x with | .str s => decide (s.cps.size ≤ 6) | _ => false) = true := by decide +kernel
theorem M_at {x : PyData} (m : x ∈ nearM) : ∃ a, x = .str (tx a) ∧ okc a = true ∧ a.length ≤ 2 := by
  have h := all_mem good_M m
  rw [Bool.and_eq_true] at h
  obtain ⟨a, rfl, h1, _⟩ := goodW_at h.1
  have h2 := of_decide_eq_true (h.2 : decide ((tx a).cps.size ≤ 2) = true)
  exact ⟨a, rfl, h1, by rw [show (tx a).cps.size = a.length from len_tx a] at h2; exact h2⟩
theorem B_at {x : PyData} (m : x ∈ nearB) : ∃ a, x = .str (tx a) ∧ okc a = true ∧ a.length ≤ 6 := by
  have h := all_mem good_B m
  rw [Bool.and_eq_true] at h
  obtain ⟨a, rfl, h1, _⟩ := goodW_at h.1
  have h2 := of_decide_eq_true (h.2 : decide ((tx a).cps.size ≤ 6) = true)
  exact ⟨a, rfl, h1, by rw [show (tx a).cps.size = a.length from len_tx a] at h2; exact h2⟩
noncomputable abbrev nwE (call : Calls) : FE := (f2 gAdd (fCall 2 (call 11) (fAc (fVar 0) (fAc (fL gLst (fAc (fC (.str "")) (fAc (fC (.str "M.")) fA0))) fA0))) (fCall 2 (call 11) (fAc (fVar 0) (fAc (fCall 0 (call 13) fA0) fA0))))
theorem nw_one (n : Nat) {S : Store} {b N : Nat} {o1 o2 o3 : Option W} (hb : BG S b N) (hN : N + 2 < 2 ^ 59) :
    ∃ x S', nwE (callN (n + 2)) [some (.loc b), o1, o2, o3] S = .ok (.d x) S' ∧ goodW x = true ∧ S'.length = S.length ∧ BG S' b (N + 2) ∧ ∀ i, i ≠ b → S'[i]? = S[i]? := by
  obtain ⟨x1, S1, m1, e1, z1, b1, o1_⟩ := k_some n (ds := nearM) hb (by omega) (by decide)
  obtain ⟨x2, S2, m2, e2, z2, b2, o2_⟩ := k_some n (ds := nearB) b1 (by omega) (by decide)
  obtain ⟨a1, rfl, k1, l1⟩ := M_at m1
  obtain ⟨a2, rfl, k2, l2⟩ := B_at m2
  have f1_ : fCall 2 (callN (n + 2) 11) (fAc (fVar 0) (fAc (fL gLst (fAc (fC (.str "")) (fAc (fC (.str "M.")) fA0))) fA0)) [some (.loc b), o1, o2, o3] S = .ok (st a1) S1 := fcall_at (ws := [.loc b, .d (.list nearM)]) rfl e1 z1 rfl
  have f13 : fCall 0 (callN (n + 2) 13) fA0 [some (.loc b), o1, o2, o3] S1 = .ok (.d (.list nearB)) S1 := fcall_at (ws := []) rfl (k_barred (n + 1)) rfl rfl
  have f2_ : fCall 2 (callN (n + 2) 11) (fAc (fVar 0) (fAc (fCall 0 (callN (n + 2) 13) fA0) fA0)) [some (.loc b), o1, o2, o3] S1 = .ok (st a2) S2 :=
    fcall_at (ws := [.loc b, .d (.list nearB)]) (by simp only [fAc, fVar, List.getElem?_cons_zero, R_ok, f13, fA0]) e2 z2 rfl
  refine ⟨.str (tx (a1 ++ a2)), S2, ?_, goodW_of ?_ (by rw [List.length_append]; omega), by omega, b2, fun i hi => (o2_ i hi).trans (o1_ i hi)⟩
  · unfold nwE f2
    rw [f1_]
    show (fCall 2 (callN (n + 2) 11) _ _ S1).bind _ = _
    rw [f2_]
    show lift (gAdd (st a1) (st a2) S2) = _
    rw [g_cat (by show a1.length + a2.length ≤ 16777216; omega)]
    rfl
  · unfold okc at k1 k2 ⊢
    rw [List.all_append, k1, k2]
    rfl
theorem nw_loop (n : Nat) {b l : Nat} (hbl : l ≠ b) {o1 o2 o3 : Option W} : ∀ (ws : List W) (acc : List PyData) (N : Nat) (S : Store), BG S b N → S[l]? = some (.lst acc) → acc.all goodW = true → acc.length + ws.length < 1000 → N + 2 * ws.length < 2 ^ 58 →
    ∃ acc' S', lcL (fun _ => True) (gtName 3) fYes (nwE (callN (n + 2))) [some (.loc b), o1, o2, o3] l ws S = .ok (.loc l) S' ∧ S'[l]? = some (.lst acc') ∧ acc'.all goodW = true ∧ acc'.length = acc.length + ws.length ∧ S'.length = S.length ∧ BG S' b (N + 2 * ws.length) ∧ ∀ i, i ≠ b → i ≠ l → S'[i]? = S[i]?
  | [], acc, N, S, hb, hS, ha, hz, hN => ⟨acc, S, by simp only [lcL, if_true], hS, ha, rfl, rfl, hb, fun _ _ _ => rfl⟩
  | w :: ws, acc, N, S, hb, hS, ha, hz, hN => by
    rw [List.length_cons] at hz hN
    obtain ⟨x, S1, e1, gx, z1, b1, o1_⟩ := nw_one n (o1 := o1) (o2 := o2) (o3 := some w) hb (by omega)
    have hS1 : S1[l]? = some (.lst acc) := by rw [o1_ l hbl]; exact hS
    have pt : lcPut l (.d x) S1 = some (S1.set l (.lst (acc ++ [x]))) := by
      simp only [lcPut, hS1, if_pos (show acc.length < lim by show acc.length < 16777216; omega)]
    obtain ⟨acc', S', e2, h1, h2, h3, h4, h5, h6⟩ := nw_loop n hbl (o1 := o1) (o2 := o2) (o3 := o3) ws (acc ++ [x]) (N + 2) (S1.set l (.lst (acc ++ [x]))) (b1.setne hbl) (at_set hS1) (by rw [List.all_append, ha]; simp [gx]) (by rw [List.length_append, List.length_singleton]; omega) (by omega)
    refine ⟨acc', S', ?_, h1, h2, ?_, ?_, ?_, fun i hi hi2 => ?_⟩
    · have fz : frz S.length (.ok (.d x) S1 : R W) = .ok (.d x) S1 := by
        show R.ok _ (S1.take S.length) = _
        rw [List.take_of_length_le (by omega)]
      rw [lcL]
      simp only [if_true, gtName, List.set_cons_zero, List.set_cons_succ, noX_ok, fYes, R_ok, e1, fz, pt]
      exact e2
    · rw [h3, List.length_append, List.length_singleton, List.length_cons]; omega
    · rw [h4, List.length_set]; exact z1
    · exact h5.mono (by rw [List.length_cons]; omega)
    · rw [h6 i hi hi2, List.getElem?_set_ne (Ne.symm hi2), o1_ i hi]
end VI
set_option Elab.async false
set_option linter.all false
set_option maxRecDepth 100000
namespace VI
open PySem PySem.Spec PyProof.Rows L2

def nearA1 : List PyData := [.str ("x" : Str), .str ("List" : Str), .str ("List.map" : Str), .str ("M.Cons" : Str), .str ("let" : Str), .str ("give" : Str), .str ("->" : Str), .str ("-" : Str), .str ("=" : Str), .str ("<" : Str), .str ("+" : Str), .str ("*" : Str), .str ("(" : Str), .str (")" : Str), .str ("{" : Str), .str ("}" : Str), .str ("," : Str)]
def nearA2 : List PyData := [.str ("." : Str), .str ("|" : Str), .str (":" : Str), .str ("_" : Str), .str ("5" : Str), .str ("~7" : Str), .str ("0" : Str), .str ("2147483647" : Str), .str ("~2147483648" : Str), .str ("?0" : Str), .str ("?123456789" : Str), .str ("A.B.c" : Str), .str ("x.y" : Str)]
def nearO1 : List PyData := [.str ("~0" : Str), .str ("05" : Str), .str ("2147483648" : Str), .str ("~2147483649" : Str), .str ("?01" : Str), .str ("?" : Str), .str ("~" : Str), .str ("?1234567890" : Str), .str (Txt.mul ("a" : Str) 20), .str (Txt.mul ("a" : Str) 21), .str ((Txt.mul ("A" : Str) 21) ++ (".x" : Str))]
def nearO2 : List PyData := [.str (("A." : Str) ++ (Txt.mul ("b" : Str) 21)), .str ("A.get" : Str), .str ("A.5" : Str), .str ("A._)" : Str), .str ("A." : Str), .str (">" : Str), .str ("/" : Str), .str ("$" : Str), .str ("!" : Str), .str ("[" : Str), .str ("'" : Str), .str ("~~1" : Str)]
def nearO3 : PyData := .str (((Txt.mul ("x" : Str) 20) ++ ("." : Str)) ++ (Txt.mul ("y" : Str) 20))
def odd1 : List PyData := [.none, .bool true, .bool false, .int 0, .int 1, .int (-1), .int (10 ^ 39), .str ("" : Str), .str ("x" : Str), .str ("A" : Str), .str ("let" : Str), .str ("M.x" : Str), .str ("x.y" : Str), .str ("A.B" : Str), .tuple [], .list [], .dict [], .tuple [.int 0], .list [.int 0]]
def odd2 : List PyData := [.tuple [.str ("num" : Str)], .tuple [.str ("num" : Str), .int 1], .tuple [.str ("num" : Str), .bool true], .tuple [.str ("num" : Str), .int 2147483648], .tuple [.str ("any" : Str)], .list [.str ("any" : Str)], .tuple [.str ("var" : Str), .int 0], .tuple [.str ("var" : Str), .int (-1)]]
def odd3 : List PyData := [.tuple [.str ("tuple" : Str), .tuple [.tuple [.str ("num" : Str), .int 1]]], .tuple [.str ("name" : Str), .str ("Let" : Str)], .tuple [.str ("name" : Str), .str ("end" : Str)], .tuple [.str ("bind" : Str), .str ("M.x" : Str)], .tuple [.str ("make" : Str), .str ("A" : Str), .tuple []]]
def odd4 : List PyData := [.tuple [.str ("record" : Str), .tuple []], .tuple [.str ("truth" : Str), .int 1], .tuple [.str ("of" : Str), .str ("A" : Str), .none], .tuple [.str ("rec" : Str), .tuple [], .tuple [.str ("num" : Str), .int 1]], .tuple [.str ("op" : Str), .str ("-" : Str), .int 0, .int 0]]
def odd5 : List PyData := [.dict [], .tuple [.tuple []]]
theorem good_near : (nearA1 ++ nearA2).all goodW = true ∧ (nearO1 ++ nearO2 ++ [nearO3]).all goodW = true := by decide +kernel
theorem g_mulT {x : Str} {n : Int} {S : Store} (h : mulOk x n = true) : gMulA (.d (.str x)) (.d (.int n)) S = some (.d (.str (Txt.mul x n)), S) := by
  have e : gMulT (.d (.str x)) (.d (.int n)) S = some (.d (.str (Txt.mul x n)), S) := if_pos h
  unfold gMulA
  rw [e]
theorem mu_a20 {S : Store} : gMulA (.d (.str "a")) (.d (.int 20)) S = some (.d (.str (Txt.mul "a" 20)), S) := g_mulT (by decide +kernel)
theorem mu_a21 {S : Store} : gMulA (.d (.str "a")) (.d (.int 21)) S = some (.d (.str (Txt.mul "a" 21)), S) := g_mulT (by decide +kernel)
theorem mu_A21 {S : Store} : gMulA (.d (.str "A")) (.d (.int 21)) S = some (.d (.str (Txt.mul "A" 21)), S) := g_mulT (by decide +kernel)
theorem mu_b21 {S : Store} : gMulA (.d (.str "b")) (.d (.int 21)) S = some (.d (.str (Txt.mul "b" 21)), S) := g_mulT (by decide +kernel)
theorem mu_x20 {S : Store} : gMulA (.d (.str "x")) (.d (.int 20)) S = some (.d (.str (Txt.mul "x" 20)), S) := g_mulT (by decide +kernel)
theorem mu_y20 {S : Store} : gMulA (.d (.str "y")) (.d (.int 20)) S = some (.d (.str (Txt.mul "y" 20)), S) := g_mulT (by decide +kernel)
theorem g_catS {x y : Str} {S : Store} (h : x.length + y.length ≤ lim) : gAdd (.d (.str x)) (.d (.str y)) S = some (.d (.str (x ++ y)), S) := if_pos h
theorem ca_1 {S : Store} : gAdd (.d (.str (Txt.mul "A" 21))) (.d (.str ".x")) S = some (.d (.str (Txt.mul "A" 21 ++ ".x")), S) := g_catS (by decide +kernel)
theorem ca_2 {S : Store} : gAdd (.d (.str "A.")) (.d (.str (Txt.mul "b" 21))) S = some (.d (.str ("A." ++ Txt.mul "b" 21)), S) := g_catS (by decide +kernel)
theorem ca_3 {S : Store} : gAdd (.d (.str (Txt.mul "x" 20))) (.d (.str ".")) S = some (.d (.str (Txt.mul "x" 20 ++ ".")), S) := g_catS (by decide +kernel)
theorem ca_4 {S : Store} : gAdd (.d (.str (Txt.mul "x" 20 ++ "."))) (.d (.str (Txt.mul "y" 20))) S = some (.d (.str (Txt.mul "x" 20 ++ "." ++ Txt.mul "y" 20)), S) := g_catS (by decide +kernel)
theorem g_lists {xs ys : List PyData} {S : Store} (h : xs.length + ys.length ≤ lim) : gAdd (.d (.list xs)) (.d (.list ys)) S = some (.d (.list (xs ++ ys)), S) := by
  show (if xs.length + ys.length ≤ lim then some (W.d (.list (xs ++ ys)), S) else none) = _
  rw [if_pos h]
theorem g_addL {j : Nat} {xs ys : List PyData} {S : Store} (hS : S[j]? = some (.lst xs)) (h : xs.length + ys.length ≤ lim) : gAddL (.loc j) (.d (.list ys)) S = some (.loc S.length, S ++ [.lst (xs ++ ys)]) := by
  have e : asL (.loc j) S = some xs := by simp only [asL, hS]
  unfold gAddL
  rw [e]
  exact if_pos h
/-- _law_near_word -/
theorem k_near (n : Nat) {S : Store} {b N : Nat} (hb : BG S b N) (hN : N < 2 ^ 57) :
    ∃ a S', callN (n + 3) 22 [.loc b] S = .ok (st a) S' ∧ okc a = true ∧ a.length ≤ 41 ∧ S.length ≤ S'.length ∧ BG S' b (N + 14) := by
  have hbS := hb.lt
  -- the two lists
  let S1 : Store := S ++ [.lst nearO1]
  let S2 : Store := S1 ++ [.lst (nearO1 ++ nearO2)]
  let S3 : Store := S2.set S1.length (.lst (nearO1 ++ nearO2 ++ [nearO3]))
  have b3 : BG S3 b N := ((hb.push _).push _).setne (by show (S ++ [SO.lst nearO1]).length ≠ b; rw [List.length_append]; omega)
  have l3 : S3.length = S.length + 2 := by show (S2.set _ _).length = _; rw [List.length_set]; show ((S ++ [_]) ++ [_]).length = _; rw [List.length_append, List.length_append]; rfl
  have a3 : S3[S1.length]? = some (.lst (nearO1 ++ nearO2 ++ [nearO3])) := at_set push_at
  have hlp : S3.length ≠ b := by omega
  obtain ⟨acc, S4, e4, h4, g4, z4, l4, b4, o4⟩ := nw_loop n (b := b) (l := S3.length) hlp (o1 := some (.d (.list (nearA1 ++ nearA2)))) (o2 := some (.loc S1.length)) (o3 := none) (rangeW 0 6) [] N (S3 ++ [.lst []]) (b3.push _) push_at rfl (by decide) (by show N + 2 * 6 < 2 ^ 58; omega)
  have z4 : acc.length = 6 := z4
  have l4 : S4.length = S3.length + 1 := by rw [l4, List.length_append]; rfl
  -- cut back
  let S5 : Store := S4.take S3.length
  have b5 : BG S5 b (N + 12) := b4.take (by omega)
  have l5 : S5.length = S3.length := by show (S4.take S3.length).length = _; rw [List.length_take]; omega
  have a5 : S5[S1.length]? = some (.lst (nearO1 ++ nearO2 ++ [nearO3])) := by
    have hlt : S1.length < S3.length := by rw [l3]; show (S ++ [_]).length < _; rw [List.length_append]; show S.length + 1 < _; omega
    show (S4.take S3.length)[S1.length]? = _
    rw [List.getElem?_take_of_lt hlt, o4 S1.length (by show (S ++ [SO.lst nearO1]).length ≠ b; rw [List.length_append]; omega) (by omega), List.getElem?_append_left hlt]
    exact a3
  obtain ⟨v, S6, e6, hv, z6, b6, o6⟩ := k_take (n + 1) (m := 6) b5 (by omega) (by decide)
  have f10 : ∀ o1 o2 o3 : Option W, fCall 2 (callN (n + 2) 10) (fAc (fVar 0) (fAc (fC (.int 6)) fA0)) [some (.loc b), o1, o2, o3] S5 = .ok (.d (.int v)) S6 := fun _ _ _ => fcall_at (ws := [.loc b, .d (.int 6)]) rfl e6 z6 rfl
  let R0 : Rho := [some (.loc b), none, none, none]
  let R1 : Rho := [some (.loc b), some (.d (.list nearA1)), none, none]
  let R2 : Rho := [some (.loc b), some (.d (.list (nearA1 ++ nearA2))), none, none]
  let R3 : Rho := [some (.loc b), some (.d (.list (nearA1 ++ nearA2))), some (.loc S.length), none]
  let R4 : Rho := [some (.loc b), some (.d (.list (nearA1 ++ nearA2))), some (.loc S1.length), none]
  let R6 : Rho := [some (.loc b), some (.d (.list (nearA1 ++ nearA2 ++ acc))), some (.loc S1.length), none]
  have lcq : fLc (fRng rng1 (fAc (fC (.int 6)) fA0)) (gtName 3) fYes (nwE (callN (n + 2))) [3] R4 S3 = .ok (.d (.list acc)) S5 := by
    have it : fRng rng1 (fAc (fC (.int 6)) fA0) R4 S3 = .ok ⟨rangeW 0 6, fun _ => True⟩ S3 := rfl
    have wp : wipeR R4 [3] = R4 := rfl
    unfold fLc fLcL
    rw [it, R_ok, wp]
    have e4' : lcL (fun _ => True) (gtName 3) fYes (nwE (callN (n + 2))) R4 S3.length (rangeW 0 6) (S3 ++ [.lst []]) = .ok (.loc S3.length) S4 := e4
    rw [e4']
    simp only [frz, frzW, Nat.lt_irrefl, if_false, h4]
    rfl
  have head : ∀ r : RF, (fRet (fCall 2 (callN (n + 2) 11) (fAc (fVar 0) (fAc (fIfE (fTest (f2 gEq (fCall 2 (callN (n + 2) 10) (fAc (fVar 0) (fAc (fC (.int 6)) fA0))) (fC (.int 0)))) (fVar 2) (fVar 1)) fA0)))) R6 S5 = r → callN (n + 3) 22 [.loc b] S = toR r := fun r hr => by
    show toR (b22 (callN (n + 2)) R0 S) = _
    unfold b22
    refine congrArg toR ?_
    refine (ev_seq (ρ1 := R1) (S1 := S) rfl).trans ?_
    refine (ev_seq (ρ1 := R2) (S1 := S) (ev_asg (ev_f2 (ev_var rfl) (show _ = R.ok (.d (.list nearA2)) S from rfl) (g_lists (by decide))))).trans ?_
    refine (ev_seq (ρ1 := R3) (S1 := S1) (ev_asg ?_)).trans ?_
    · simp only [fSeq, fAsg, fVar, fC, f1, f2, fL, fAc, fA0, fTest, fAndT, fOrT, fNotT, fTru, fAndV, fOrV, fIfE, fIf, fRet, fAug, fDrop, fSl, fPart, fNoPart, intOf, gtName, R_ok, toS_ok, lift_some, boolW_ok, truR_b, List.getElem?_cons_zero, List.getElem?_cons_succ, List.set_cons_zero, List.set_cons_succ, mu_a20, mu_a21, mu_A21, ca_1]
      rfl
    refine (ev_seq (ρ1 := R4) (S1 := S2) (ev_asg (ev_f2 (y := .d (.list nearO2)) (ev_var rfl) ?_ (g_addL push_at (by decide))))).trans ?_
    · simp only [fSeq, fAsg, fVar, fC, f1, f2, fL, fAc, fA0, fTest, fAndT, fOrT, fNotT, fTru, fAndV, fOrV, fIfE, fIf, fRet, fAug, fDrop, fSl, fPart, fNoPart, intOf, gtName, R_ok, toS_ok, lift_some, boolW_ok, truR_b, List.getElem?_cons_zero, List.getElem?_cons_succ, List.set_cons_zero, List.set_cons_succ, mu_b21, ca_2]
      rfl
    refine (ev_seq (ρ1 := R4) (S1 := S3) (ev_drop (x := .d .none) (ev_meth (ws := [.d nearO3]) (z := .d .none) (S2 := S2) (ev_var rfl) ?_ ?_ ?_))).trans ?_
    · simp only [liveB]
      show (match (S1 ++ [SO.lst (nearO1 ++ nearO2)])[S1.length]? with | some (.lst _) => true | _ => false) = true
      rw [push_at]
    · simp only [fSeq, fAsg, fVar, fC, f1, f2, fL, fAc, fA0, fTest, fAndT, fOrT, fNotT, fTru, fAndV, fOrV, fIfE, fIf, fRet, fAug, fDrop, fSl, fPart, fNoPart, intOf, gtName, R_ok, toS_ok, lift_some, boolW_ok, truR_b, List.getElem?_cons_zero, List.getElem?_cons_succ, List.set_cons_zero, List.set_cons_succ, mu_x20, mu_y20, ca_3, ca_4]
      rfl
    · show (match (S1 ++ [SO.lst (nearO1 ++ nearO2)])[S1.length]? with | some (.lst xs) => if xs.length < lim then some (W.d .none, (S1 ++ [SO.lst (nearO1 ++ nearO2)]).set S1.length (.lst (xs ++ [nearO3]))) else none | _ => none) = _
      rw [push_at]
      rfl
    refine (ev_seq (ρ1 := R6) (S1 := S5) (ev_asg (ev_f2 (y := .d (.list acc)) (ev_var rfl) ?_ (g_lists (by rw [z4]; decide))))).trans hr
    exact lcq
  have f10 := f10 (some (.d (.list (nearA1 ++ nearA2 ++ acc)))) (some (.loc S1.length)) none
  have l6 : S6.length = S.length + 2 := by omega
  have hne : S1.length ≠ b := by show (S ++ [SO.lst nearO1]).length ≠ b; rw [List.length_append]; omega
  by_cases hv0 : v = 0
  · have q : gEq (.d (.int v)) (.d (.int 0)) S6 = some (bt true, S6) := by rw [ev_eqI, decide_eq_true hv0]
    obtain ⟨x, S7, m7, e7, z7, b7, o7⟩ := k_someL n b6 (by omega) hne ((o6 S1.length hne).trans a5) (by decide)
    obtain ⟨a, rfl, ka, la⟩ := goodW_at (all_mem good_near.2 m7)
    refine ⟨a, S7, ?_, ka, la, by omega, b7.mono (by omega)⟩
    refine (head (.ret (st a) S7) (ev_ret (fcall_at (ws := [.loc b, .loc S1.length]) ?_ e7 z7 rfl))).trans rfl
    simp only [R6, fAc, fA0, fIfE, fTest, f2, fVar, fC, R_ok, lift_some, boolW_ok, List.getElem?_cons_zero, List.getElem?_cons_succ, f10, q, if_true]
  · have q : gEq (.d (.int v)) (.d (.int 0)) S6 = some (bt false, S6) := by rw [ev_eqI, decide_eq_false hv0]
    obtain ⟨x, S7, m7, e7, z7, b7, o7⟩ := k_some n (ds := nearA1 ++ nearA2 ++ acc) b6 (by omega) (by rw [List.length_append, z4]; decide)
    have gx : goodW x = true := by
      rcases List.mem_append.mp m7 with m | m
      · exact all_mem good_near.1 m
      · exact all_mem g4 m
    obtain ⟨a, rfl, ka, la⟩ := goodW_at gx
    refine ⟨a, S7, ?_, ka, la, by omega, b7.mono (by omega)⟩
    refine (head (.ret (st a) S7) (ev_ret (fcall_at (ws := [.loc b, .d (.list (nearA1 ++ nearA2 ++ acc))]) ?_ e7 z7 rfl))).trans rfl
    simp only [R6, fAc, fA0, fIfE, fTest, f2, fVar, fC, R_ok, lift_some, boolW_ok, List.getElem?_cons_zero, List.getElem?_cons_succ, f10, q, Bool.false_eq_true, if_false]
/-- _law_odd -/
theorem k_odd (n : Nat) {S : Store} {b N : Nat} (hb : BG S b N) (hN : N < 2 ^ 58) : ∃ x S', callN (n + 3) 17 [.loc b] S = .ok (.d x) S' ∧ S'.length = S.length ∧ BG S' b (N + 1) := by
  obtain ⟨x, S1, m1, e1, z1, b1, o1⟩ := k_some n (ds := odd1 ++ odd2 ++ odd3 ++ odd4 ++ odd5) hb (by omega) (by decide)
  refine ⟨x, S1, ?_, z1, b1⟩
  show toR (b17 (callN (n + 2)) [some (.loc b), none] S) = _
  unfold b17
  refine Eq.trans (congrArg toR (a₂ := RF.ret (.d x) S1) ?_) rfl
  refine (ev_seq (ρ1 := [some (.loc b), some (.d (.list odd1))]) (S1 := S) rfl).trans ?_
  refine (ev_seq (ρ1 := [some (.loc b), some (.d (.list (odd1 ++ odd2)))]) (S1 := S) (ev_asg (ev_f2 (ev_var rfl) (show _ = R.ok (.d (.list odd2)) S from rfl) (g_lists (by decide))))).trans ?_
  refine (ev_seq (ρ1 := [some (.loc b), some (.d (.list (odd1 ++ odd2 ++ odd3)))]) (S1 := S) (ev_asg (ev_f2 (ev_var rfl) (show _ = R.ok (.d (.list odd3)) S from rfl) (g_lists (by decide))))).trans ?_
  refine (ev_seq (ρ1 := [some (.loc b), some (.d (.list (odd1 ++ odd2 ++ odd3 ++ odd4)))]) (S1 := S) (ev_asg (ev_f2 (ev_var rfl) (show _ = R.ok (.d (.list odd4)) S from rfl) (g_lists (by decide))))).trans ?_
  exact ev_ret (fcall_at (ws := [.loc b, .d (.list (odd1 ++ odd2 ++ odd3 ++ odd4 ++ odd5))]) (ev_ac (ev_var rfl) (ev_one (ev_f2 (ev_var rfl) (show _ = R.ok (.d (.list odd5)) S from rfl) (g_lists (by decide))))) e1 z1 rfl)
end VI
set_option Elab.async false
set_option linter.all false
set_option maxRecDepth 100000
namespace VI
open PySem PySem.Spec PyProof.Rows L2

theorem for_inv {I : Nat → Rho → Store → Prop} {i : Nat} {b : FS} (step : ∀ j w ρ S, I j ρ S → ∃ ρ' S', b (ρ.set i (some w)) S = .next ρ' S' ∧ I (j + 1) ρ' S') :
    ∀ (ws : List W) (j : Nat) (ρ : Rho) (S : Store), I j ρ S → ∃ ρ' S', forL (fun _ => True) (gtName i) b ws ρ S = .next ρ' S' ∧ I (j + ws.length) ρ' S'
  | [], j, ρ, S, h => ⟨ρ, S, by simp only [forL, if_true], h⟩
  | w :: ws, j, ρ, S, h => by
    obtain ⟨ρ1, S1, e1, h1⟩ := step j w ρ S h
    obtain ⟨ρ2, S2, e2, h2⟩ := for_inv step ws (j + 1) ρ1 S1 h1
    refine ⟨ρ2, S2, ?_, by rw [List.length_cons]; rw [show j + (ws.length + 1) = j + 1 + ws.length by omega]; exact h2⟩
    rw [forL, if_pos trivial]
    simp only [gtName, e1]
    exact e2
theorem rangeW_len (lo : Int) (n : Nat) : (rangeW lo n).length = n := by unfold rangeW; rw [List.length_map, List.length_range]
theorem isi_any (x : PyData) (S : Store) : ∃ b, gIsiA "str" (.d x) S = some (bt b, S) := by
  cases x with
  | none => exact ⟨_, rfl⟩
  | bool b => exact ⟨_, rfl⟩
  | int i => exact ⟨_, rfl⟩
  | str s => exact ⟨_, rfl⟩
  | list xs => exact ⟨_, rfl⟩
  | tuple xs => exact ⟨_, rfl⟩
  | dict kvs =>
    cases kvs with
    | nil => exact ⟨_, rfl⟩
    | cons a b => exact ⟨_, rfl⟩
def begL : List PyData := [.str "", .str "", .str " ", .str "# x\n"]
def gapL : List PyData := [.str "", .str "", .str " ", .str "  ", .str "\n", .str " # a ( \n", .str "\n\n  ", .str "#\n"]
def endL : List PyData := [.str "", .str "#", .str " # ~0 $", .str "\n"]
def cntL : List PyData := [.int 0, .int 3, .int 6, .int 10]
def smallW (m : Nat) (x : PyData) : Bool := match x with
  | .str s => okc s.cps.toList && decide (s.cps.size ≤ m)
  | _ => false
theorem smallW_at {m : Nat} {x : PyData} (h : smallW m x = true) : ∃ a, x = .str (tx a) ∧ okc a = true ∧ a.length ≤ m := by
  cases x with
  | str s =>
    have h2 : (okc s.cps.toList && decide (s.cps.size ≤ m)) = true := h
    rw [Bool.and_eq_true, decide_eq_true_eq] at h2
    exact ⟨s.cps.toList, by rw [show tx s.cps.toList = s from SX.S_tl s], h2.1, by rw [Array.length_toList]; exact h2.2⟩
  | _ => cases h
theorem small_beg : begL.all (smallW 4) = true := by decide +kernel
theorem small_gap : gapL.all (smallW 8) = true := by decide +kernel
theorem small_end : endL.all (smallW 7) = true := by decide +kernel
theorem cnt_at {x : PyData} (m : x ∈ cntL) : ∃ k : Nat, x = .int (k : Int) ∧ k ≤ 10 := by
  simp only [cntL, List.mem_cons, List.not_mem_nil, or_false] at m
  rcases m with rfl | rfl | rfl | rfl
  · exact ⟨0, rfl, by omega⟩
  · exact ⟨3, rfl, by omega⟩
  · exact ⟨6, rfl, by omega⟩
  · exact ⟨10, rfl, by omega⟩
theorem okc_app {a b : List Nat} (h1 : okc a = true) (h2 : okc b = true) : okc (a ++ b) = true := by
  unfold okc at h1 h2 ⊢
  rw [List.all_append, h1, h2]
  rfl
/-- the words joined -/
noncomputable abbrev kB (call : Calls) : FS := (fSeq (fAsg (fCall 2 (call 11) (fAc (fVar 1) (fAc (fL gLst (fAc (fC (.str "")) (fAc (fC (.str "")) (fAc (fC (.str " ")) (fAc (fC (.str "  ")) (fAc (fC (.str "\n")) (fAc (fC (.str " # a ( \n")) (fAc (fC (.str "\n\n  ")) (fAc (fC (.str "#\n")) fA0))))))))) fA0))) (gtName 5)) (fAsg (f2 gAdd (f2 gAdd (fVar 3) (fCall 1 (call 22) (fAc (fVar 1) fA0))) (fVar 5)) (gtName 3)))
def IK (M j : Nat) (ρ : Rho) (S : Store) : Prop := ∃ (a0 a2 a4 a5 a6 a7 a8 a9 : Option W) (t : List Nat), ρ = [a0, some (.loc 0), a2, some (st t), a4, a5, a6, a7, a8, a9] ∧ okc t = true ∧ t.length ≤ 4 + 49 * j ∧ j ≤ 10 ∧ BG S 0 (M + 15 * j)
theorem k_turn (n : Nat) {M : Nat} (hM : M < 2 ^ 50) : ∀ j w ρ S, j < 10 → IK M j ρ S → ∃ ρ' S', kB (callN (n + 5)) (ρ.set 4 (some w)) S = .next ρ' S' ∧ IK M (j + 1) ρ' S' := by
  rintro j w ρ S hj ⟨a0, a2, a4, a5, a6, a7, a8, a9, t, rfl, hk, hl, _, hb⟩
  obtain ⟨x, S1, m1, e1, z1, b1, o1⟩ := k_some (n + 3) (ds := gapL) hb (by omega) (by decide)
  obtain ⟨g, rfl, gk, gl⟩ := smallW_at (all_mem small_gap m1)
  obtain ⟨a, S2, e2, ak, al, z2, b2⟩ := k_near (n + 2) b1 (by omega)
  have hlt := b1.lt
  have f1_ : ∀ a0 a2 a3 a4 a5 a6 a7 a8 a9 : Option W, fCall 2 (callN (n + 5) 11) (fAc (fVar 1) (fAc (fL gLst (fAc (fC (.str "")) (fAc (fC (.str "")) (fAc (fC (.str " ")) (fAc (fC (.str "  ")) (fAc (fC (.str "\n")) (fAc (fC (.str " # a ( \n")) (fAc (fC (.str "\n\n  ")) (fAc (fC (.str "#\n")) fA0))))))))) fA0)) [a0, some (.loc 0), a2, a3, a4, a5, a6, a7, a8, a9] S = .ok (st g) S1 := fun _ _ _ _ _ _ _ _ _ => fcall_at (ws := [.loc 0, .d (.list gapL)]) rfl e1 z1 rfl
  have f2_ : ∀ a0 a2 a3 a4 a5 a6 a7 a8 a9 : Option W, fCall 1 (callN (n + 5) 22) (fAc (fVar 1) fA0) [a0, some (.loc 0), a2, a3, a4, a5, a6, a7, a8, a9] S1 = .ok (st a) (S2.take S1.length) := fun _ _ _ _ _ _ _ _ _ => ev_cd (ws := [.loc 0]) rfl e2
  have c1 : ∀ S : Store, gAdd (st t) (st a) S = some (st (t ++ a), S) := fun S => g_cat (by show t.length + a.length ≤ 16777216; omega)
  have c2 : ∀ S : Store, gAdd (st (t ++ a)) (st g) S = some (st (t ++ a ++ g), S) := fun S => g_cat (by rw [List.length_append]; show t.length + a.length + g.length ≤ 16777216; omega)
  refine ⟨[a0, some (.loc 0), a2, some (st (t ++ a ++ g)), some w, some (st g), a6, a7, a8, a9], S2.take S1.length, ?_, a0, a2, some w, some (st g), a6, a7, a8, a9, t ++ a ++ g, rfl, okc_app (okc_app hk ak) gk, by rw [List.length_append, List.length_append]; omega, by omega, ?_⟩
  · simp only [fSeq, fAsg, f2, fVar, gtName, R_ok, toS_ok, lift_some, List.getElem?_cons_zero, List.getElem?_cons_succ, List.set_cons_zero, List.set_cons_succ, f1_, f2_, c1, c2]
  · exact (b2.take hlt).mono (by omega)
/-- heard twice -/
noncomputable abbrev aB (call : Calls) : FS := (fSeq (fAsg (fCallL 1 (call 21) (fAc (fVar 3) fA0)) (gtName 8)) (fSeq (fIf (fNotT (fTru (fCall 2 (call 12) (fAc (fVar 8) (fAc (fVar 6) fA0))))) (fRet (fC (.bool false))) fNext) (fIf (fTest (f2 gEq (f2 gIx (fVar 8) (fC (.int 0))) (fC (.str "told")))) (fSeq (fDrop (fMeth mAppend (f2 gIx (fVar 8) (fC (.int 1))) (fAc (fC .none) fA0))) (fAsg (fCall 1 (call 18) (fAc (fVar 3) fA0)) (gtName 6))) fNext)))
def IA (t : List Nat) (M j : Nat) (ρ : Rho) (S : Store) : Prop := ∃ (a0 a2 a4 a5 a7 a8 a9 : Option W), ρ = [a0, some (.loc 0), a2, some (st t), a4, a5, some (.d (encOut (P6.scan barred [] t 0 0))), a7, a8, a9] ∧ BG S 0 M
theorem k_again (n : Nat) {t : List Nat} {M : Nat} (hk : okc t = true) (hl : t.length ≤ 600) : ∀ j w ρ S, IA t M j ρ S → ∃ ρ' S', aB (callN (n + 5)) (ρ.set 7 (some w)) S = .next ρ' S' ∧ IA t M (j + 1) ρ' S' := by
  rintro j w ρ S ⟨a0, a2, a4, a5, a7, a8, a9, rfl, hb⟩
  have hd := k_heard n (t := t) (S := S) (by omega) hk
  have fo : Fine (encOut (P6.scan barred [] t 0 0)) := fine_out hl (scan_ok t.length t.length t.length t (Nat.le_refl _) [] 0 0 hk (by simp) (by omega) (by omega) (fun _ m => by cases m))
  have due : ∀ (S : Store) (a0 a2 a4 a5 a6 a7 a8 a9 : Option W), fCall 1 (callN (n + 5) 18) (fAc (fVar 3) fA0) [a0, some (.loc 0), a2, some (st t), a4, a5, a6, a7, a8, a9] S = .ok (.d (encOut (P6.scan barred [] t 0 0))) S := fun S _ _ _ _ _ _ _ _ => by
    have h := frz_told (k_scanned (n + 1) (t := t) (S := S) (by omega) hk)
    show (if ([st t] : List W).length = 1 then frz S.length (callN (n + 1 + 4) 18 [st t] S) else R.bad) = _
    rw [if_pos (show ([st t] : List W).length = 1 from rfl)]
    exact h
  have hear : ∀ (r : R W) (a0 a2 a4 a5 a6 a7 a8 a9 : Option W), callN (n + 5) 21 [st t] S = r → fCallL 1 (callN (n + 5) 21) (fAc (fVar 3) fA0) [a0, some (.loc 0), a2, some (st t), a4, a5, a6, a7, a8, a9] S = r := fun r _ _ _ _ _ _ _ _ h => by
    show (if ([st t] : List W).length = 1 then callN (n + 5) 21 [st t] S else R.bad) = _
    rw [if_pos (show ([st t] : List W).length = 1 from rfl)]
    exact h
  have hne : S.length ≠ 0 := by have := hb.lt; omega
  cases hs : P6.scan barred [] t 0 0 with
  | told fs =>
    rw [hs] at hd fo due
    have hd : callN (n + 5) 21 [st t] S = _ := hd
    have eA : asD (.tp [.d (.str "told"), .loc S.length]) (S ++ [.lst (fs.map encTok)]) = some (encOut (.told fs)) := by
      simp only [asD, asDs, push_at]
      rfl
    have al : fCall 2 (callN (n + 5) 12) (fAc (fVar 8) (fAc (fVar 6) fA0)) [a0, some (.loc 0), a2, some (st t), a4, a5, some (.d (encOut (.told fs))), some w, some (.tp [.d (.str "told"), .loc S.length]), a9] (S ++ [.lst (fs.map encTok)]) = .ok (bt true) (S ++ [.lst (fs.map encTok)]) :=
      fcall_at (ws := [.tp [.d (.str "told"), .loc S.length], .d (encOut (.told fs))]) rfl (k_alike (n + 4) eA (by rw [asD]) fo) rfl rfl
    have x0 : ∀ S' : Store, gIx (.tp [.d (.str "told"), .loc S.length]) (.d (.int 0)) S' = some (.d (.str "told"), S') := fun _ => rfl
    have x1 : ∀ S' : Store, gIx (.tp [.d (.str "told"), .loc S.length]) (.d (.int 1)) S' = some (.loc S.length, S') := fun _ => rfl
    have q : ∀ S' : Store, gEq (.d (.str "told")) (.d (.str "told")) S' = some (bt true, S') := fun S' => by
      show some (bt (("told" : Str) == "told"), S') = _
      rw [beq_self_eq_true]
    have lv : liveB (.loc S.length) (S ++ [.lst (fs.map encTok)]) = true := by simp only [liveB, push_at]
    have hz : (fs.map encTok).length < lim := by
      have ok := scan_ok t.length t.length t.length t (Nat.le_refl _) [] 0 0 hk (by simp) (by omega) (by omega) (fun _ m => by cases m)
      rw [hs] at ok
      rw [List.length_map]
      have := ok.1
      show fs.length < 16777216
      omega
    have ap : mAppend (.loc S.length) [.d .none] (S ++ [.lst (fs.map encTok)]) = some (.d .none, S ++ [.lst (fs.map encTok ++ [.none])]) := by
      simp only [mAppend, push_at, hz, if_true, set_last]
    refine ⟨[a0, some (.loc 0), a2, some (st t), a4, a5, some (.d (encOut (.told fs))), some w, some (.tp [.d (.str "told"), .loc S.length]), a9], S ++ [.lst (fs.map encTok ++ [.none])], ?_, a0, a2, a4, a5, some w, some (.tp [.d (.str "told"), .loc S.length]), a9, by rw [hs], hb.push _⟩
    simp only [fSeq, fAsg, fVar, fC, f1, f2, fL, fAc, fA0, fTest, fAndT, fOrT, fNotT, fTru, fAndV, fOrV, fIfE, fIf, fRet, fAug, fDrop, fSl, fPart, fNoPart, intOf, gtName, R_ok, toS_ok, lift_some, boolW_ok, truR_b, List.getElem?_cons_zero, List.getElem?_cons_succ, List.set_cons_zero, List.set_cons_succ, fMeth, hear _ _ _ _ _ _ _ _ _ hd, al, Bool.not_true, Bool.false_eq_true, if_false, fNext, x0, x1, q, if_true, lv, ap, due]
  | text a b =>
    rw [hs] at hd fo due
    obtain ⟨X, hd⟩ := hd
    have al : fCall 2 (callN (n + 5) 12) (fAc (fVar 8) (fAc (fVar 6) fA0)) [a0, some (.loc 0), a2, some (st t), a4, a5, some (.d (encOut (.text a b))), some w, some (.d (encOut (.text a b))), a9] (S ++ [X]) = .ok (bt true) (S ++ [X]) :=
      fcall_at (ws := [.d (encOut (.text a b)), .d (encOut (.text a b))]) rfl (k_alike (n + 4) (by rw [asD]) (by rw [asD]) fo) rfl rfl
    have x0 : ∀ S' : Store, gIx (.d (encOut (.text a b))) (.d (.int 0)) S' = some (.d (.str "text"), S') := fun _ => rfl
    have q : ∀ S' : Store, gEq (.d (.str "text")) (.d (.str "told")) S' = some (bt false, S') := fun S' => by
      show some (bt (("text" : Str) == "told"), S') = _
      rw [show (("text" : Str) == "told") = false by decide +kernel]
    refine ⟨[a0, some (.loc 0), a2, some (st t), a4, a5, some (.d (encOut (.text a b))), some w, some (.d (encOut (.text a b))), a9], S ++ [X], ?_, a0, a2, a4, a5, some w, some (.d (encOut (.text a b))), a9, by rw [hs], hb.push _⟩
    have hd : callN (n + 5) 21 [st t] S = .ok (.d (encOut (.text a b))) (S ++ [X]) := hd
    simp only [fSeq, fAsg, fVar, fC, f1, f2, fL, fAc, fA0, fTest, fAndT, fOrT, fNotT, fTru, fAndV, fOrV, fIfE, fIf, fRet, fAug, fDrop, fSl, fPart, fNoPart, intOf, gtName, R_ok, toS_ok, lift_some, boolW_ok, truR_b, List.getElem?_cons_zero, List.getElem?_cons_succ, List.set_cons_zero, List.set_cons_succ, hear _ _ _ _ _ _ _ _ _ hd, al, Bool.not_true, Bool.false_eq_true, if_false, fNext, x0, q]
end VI
set_option Elab.async false
set_option linter.all false
set_option maxRecDepth 100000
namespace VI
open PySem PySem.Spec PyProof.Rows L2

theorem for_invB {I : Nat → Rho → Store → Prop} {i m : Nat} {b : FS} (step : ∀ j w ρ S, j < m → I j ρ S → ∃ ρ' S', b (ρ.set i (some w)) S = .next ρ' S' ∧ I (j + 1) ρ' S') :
    ∀ (ws : List W) (j : Nat) (ρ : Rho) (S : Store), j + ws.length ≤ m → I j ρ S → ∃ ρ' S', forL (fun _ => True) (gtName i) b ws ρ S = .next ρ' S' ∧ I (j + ws.length) ρ' S'
  | [], j, ρ, S, _, h => ⟨ρ, S, by simp only [forL, if_true], h⟩
  | w :: ws, j, ρ, S, hm, h => by
    rw [List.length_cons] at hm
    obtain ⟨ρ1, S1, e1, h1⟩ := step j w ρ S (by omega) h
    obtain ⟨ρ2, S2, e2, h2⟩ := for_invB step ws (j + 1) ρ1 S1 (by omega) h1
    refine ⟨ρ2, S2, ?_, by rw [List.length_cons]; rw [show j + (ws.length + 1) = j + 1 + ws.length by omega]; exact h2⟩
    rw [forL, if_pos trivial]
    simp only [gtName, e1]
    exact e2
theorem rng_at {S : Store} (k : Nat) (h : k < 1000) : rng1 [nt k] S = .ok ⟨rangeW 0 k, fun _ => True⟩ S := by
  have hf : fit62 (k : Int) = true := by
    unfold fit62
    rw [Bool.and_eq_true, decide_eq_true_eq, decide_eq_true_eq]
    omega
  unfold rng1
  simp only [hf, if_true, Int.toNat_natCast]
theorem rng_nat {ρ : Rho} {S : Store} (k : Nat) (h : k < 1000) {i : Int} (e : i = (k : Int) := by rfl) : fRng rng1 (fAc (fC (.int i)) fA0) ρ S = .ok ⟨rangeW 0 k, fun _ => True⟩ S := by
  have e1 : fRng rng1 (fAc (fC (.int i)) fA0) ρ S = rng1 [.d (.int i)] S := rfl
  rw [e1, e]
  exact rng_at k h
noncomputable abbrev tB (call : Calls) : FS := (fSeq (fAsg (fCall 2 (call 11) (fAc (fVar 1) (fAc (fL gLst (fAc (fC (.str "")) (fAc (fC (.str "")) (fAc (fC (.str " ")) (fAc (fC (.str "# x\n")) fA0))))) fA0))) (gtName 3)) (fSeq (fFor (fRng rng1 (fAc (fCall 2 (call 11) (fAc (fVar 1) (fAc (fL gLst (fAc (fC (.int 0)) (fAc (fC (.int 3)) (fAc (fC (.int 6)) (fAc (fC (.int 10)) fA0))))) fA0))) fA0)) (gtName 4) (kB call)) (fSeq (fAsg (f2 gAdd (fVar 3) (fCall 2 (call 11) (fAc (fVar 1) (fAc (fL gLst (fAc (fC (.str "")) (fAc (fC (.str "#")) (fAc (fC (.str " # ~0 $")) (fAc (fC (.str "\n")) fA0))))) fA0)))) (gtName 3)) (fSeq (fAsg (fCall 1 (call 18) (fAc (fVar 3) fA0)) (gtName 6)) (fFor (fRng rng1 (fAc (fC (.int 2)) fA0)) (gtName 7) (aB call))))))
def IT (j : Nat) (ρ : Rho) (S : Store) : Prop := ∃ (a0 a2 a3 a4 a5 a6 a7 a8 a9 : Option W), ρ = [a0, some (.loc 0), a2, a3, a4, a5, a6, a7, a8, a9] ∧ BG S 0 (200 * j)
theorem t_turn (n : Nat) : ∀ j w ρ S, j < 8 → IT j ρ S → ∃ ρ' S', tB (callN (n + 5)) (ρ.set 2 (some w)) S = .next ρ' S' ∧ IT (j + 1) ρ' S' := by
  rintro j w ρ S hj ⟨a0, a2, a3, a4, a5, a6, a7, a8, a9, rfl, hb⟩
  obtain ⟨x, S1, m1, e1, z1, b1, o1⟩ := k_some (n + 3) (ds := begL) hb (by omega) (by decide)
  obtain ⟨g, rfl, gk, gl⟩ := smallW_at (all_mem small_beg m1)
  obtain ⟨y, S2, m2, e2, z2, b2, o2⟩ := k_some (n + 3) (ds := cntL) b1 (by omega) (by decide)
  obtain ⟨k, rfl, hk10⟩ := cnt_at m2
  -- the text
  obtain ⟨ρ3, S3, e3, ⟨c0, c2, c4, c5, c6, c7, c8, c9, t, hρ, tk, tl, _, b3⟩⟩ := for_invB (m := 10) (k_turn n (M := 200 * j + 2) (by omega)) (rangeW 0 k) 0 [a0, some (.loc 0), some w, some (st g), a4, a5, a6, a7, a8, a9] S2 (by rw [rangeW_len]; omega) ⟨a0, some w, a4, a5, a6, a7, a8, a9, g, rfl, gk, by omega, by omega, b2.mono (by omega)⟩
  rw [rangeW_len] at tl b3
  subst hρ
  obtain ⟨z, S4, m4, e4, z4, b4, o4⟩ := k_some (n + 3) (ds := endL) b3 (by omega) (by decide)
  obtain ⟨h, rfl, hk, hl⟩ := smallW_at (all_mem small_end m4)
  have tk2 : okc (t ++ h) = true := okc_app tk hk
  have tl2 : (t ++ h).length ≤ 600 := by rw [List.length_append]; omega
  obtain ⟨ρ6, S6, e6, ⟨d0, d2, d4, d5, d7, d8, d9, hρ6, b6⟩⟩ := for_inv (k_again n (t := t ++ h) (M := 200 * (j + 1)) tk2 tl2) (rangeW 0 2) 0 [c0, some (.loc 0), c2, some (st (t ++ h)), c4, c5, some (.d (encOut (P6.scan barred [] (t ++ h) 0 0))), c7, c8, c9] S4 ⟨c0, c2, c4, c5, c7, c8, c9, rfl, b4.mono (by omega)⟩
  refine ⟨ρ6, S6, ?_, d0, d2, some (st (t ++ h)), d4, d5, some (.d (encOut (P6.scan barred [] (t ++ h) 0 0))), d7, d8, d9, hρ6, b6⟩
  refine (ev_seq (ρ1 := [a0, some (.loc 0), some w, some (st g), a4, a5, a6, a7, a8, a9]) (S1 := S1) (ev_asg (fcall_at (ws := [.loc 0, .d (.list begL)]) rfl e1 z1 rfl))).trans ?_
  refine (ev_seq (ρ1 := [c0, some (.loc 0), c2, some (st t), c4, c5, c6, c7, c8, c9]) (S1 := S3) ?_).trans ?_
  · have f11 : fCall 2 (callN (n + 5) 11) (fAc (fVar 1) (fAc (fL gLst (fAc (fC (.int 0)) (fAc (fC (.int 3)) (fAc (fC (.int 6)) (fAc (fC (.int 10)) fA0))))) fA0)) [a0, some (.loc 0), some w, some (st g), a4, a5, a6, a7, a8, a9] S1 = .ok (nt k) S2 := fcall_at (ws := [.loc 0, .d (.list cntL)]) rfl e2 z2 rfl
    have rg : rng1 [nt k] S2 = .ok ⟨rangeW 0 k, fun _ => True⟩ S2 := rng_at k (by omega)
    unfold fFor fRng
    have f12 : fAc (fCall 2 (callN (n + 5) 11) (fAc (fVar 1) (fAc (fL gLst (fAc (fC (.int 0)) (fAc (fC (.int 3)) (fAc (fC (.int 6)) (fAc (fC (.int 10)) fA0))))) fA0))) fA0 [a0, some (.loc 0), some w, some (st g), a4, a5, a6, a7, a8, a9] S1 = .ok [nt k] S2 := ev_one f11
    rw [f12, R_ok, rg]
    exact e3
  have c1 : gAdd (st t) (st h) S4 = some (st (t ++ h), S4) := g_cat (by rw [List.length_append] at tl2; show t.length + h.length ≤ 16777216; omega)
  refine (ev_seq (ρ1 := [c0, some (.loc 0), c2, some (st (t ++ h)), c4, c5, c6, c7, c8, c9]) (S1 := S4) (ev_asg (ev_f2 (y := st h) (ev_var rfl) (fcall_at (ws := [.loc 0, .d (.list endL)]) rfl e4 z4 rfl) c1))).trans ?_
  have due : fCall 1 (callN (n + 5) 18) (fAc (fVar 3) fA0) [c0, some (.loc 0), c2, some (st (t ++ h)), c4, c5, c6, c7, c8, c9] S4 = .ok (.d (encOut (P6.scan barred [] (t ++ h) 0 0))) S4 := by
    have h2 := frz_told (k_scanned (n + 1) (t := t ++ h) (S := S4) (by omega) tk2)
    show (if ([st (t ++ h)] : List W).length = 1 then frz S4.length (callN (n + 1 + 4) 18 [st (t ++ h)] S4) else R.bad) = _
    rw [if_pos (show ([st (t ++ h)] : List W).length = 1 from rfl)]
    exact h2
  refine (ev_seq (ρ1 := [c0, some (.loc 0), c2, some (st (t ++ h)), c4, c5, some (.d (encOut (P6.scan barred [] (t ++ h) 0 0))), c7, c8, c9]) (S1 := S4) (ev_asg due)).trans ?_
  have it7 : fRng rng1 (fAc (fC (.int 2)) fA0) [c0, some (.loc 0), c2, some (st (t ++ h)), c4, c5, some (.d (encOut (P6.scan barred [] (t ++ h) 0 0))), c7, c8, c9] S4 = .ok ⟨rangeW 0 2, fun _ => True⟩ S4 := rng_nat 2 (by decide)
  unfold fFor
  rw [it7]
  exact e6
theorem fine_wrong : Fine (.tuple [.str "wrong", .int 0]) := ⟨by decide +kernel, by decide +kernel, by
  have b := PyData.shown_le_bulk 13 (by decide) (.tuple [.str "wrong", .int 0]) (by decide +kernel)
  have e : PyData.bulk (.tuple [.str "wrong", .int 0]) = 7 := by decide +kernel
  show _ ≤ 16777216
  omega⟩
theorem k_law (n : Nat) {ns : List Int} (h : ns.length ≤ 63) : ∃ S', runB 10 (b23 (callN (n + 5))) [scriptW ns] [] = .ok (bt true) S' := by
  obtain ⟨bag, e0, bf, b0⟩ := k_bag (n + 4) h
  obtain ⟨ρ1, S1, e1, ⟨a0, a2, a3, a4, a5, a6, a7, a8, a9, hρ, b1⟩⟩ := for_invB (m := 8) (t_turn n) (rangeW 0 8) 0 [some (scriptW ns), some (.loc 0), none, none, none, none, none, none, none, none] [bag.so] (by rw [rangeW_len]; omega) ⟨some (scriptW ns), none, none, none, none, none, none, none, none, rfl, bag, rfl, bf, by omega⟩
  rw [rangeW_len] at b1
  subst hρ
  obtain ⟨x1, S2, e2, z2, b2⟩ := k_odd (n + 2) b1 (by omega)
  obtain ⟨x2, S3, e3, z3, b3⟩ := k_odd (n + 2) b2 (by omega)
  obtain ⟨x, S4, m4, e4, z4, b4, o4⟩ := k_some (n + 3) (ds := [x1, x2, .dict [(.none, .none)]]) b3 (by omega) ⟨(by show (0 : Nat) < 3; decide), (by show (3 : Nat) < 1073741824; decide)⟩
  let R1 : Rho := [a0, some (.loc 0), a2, a3, a4, a5, a6, a7, a8, a9]
  let R2 : Rho := [a0, some (.loc 0), a2, a3, a4, a5, a6, a7, a8, some (.d x)]
  have f17a : fCall 1 (callN (n + 5) 17) (fAc (fVar 1) fA0) R1 S1 = .ok (.d x1) S2 := fcall_at (ws := [.loc 0]) rfl e2 z2 rfl
  have f17b : fCall 1 (callN (n + 5) 17) (fAc (fVar 1) fA0) R1 S2 = .ok (.d x2) S3 := fcall_at (ws := [.loc 0]) rfl e3 z3 rfl
  have lst : fL gLst (fAc (fCall 1 (callN (n + 5) 17) (fAc (fVar 1) fA0)) (fAc (fCall 1 (callN (n + 5) 17) (fAc (fVar 1) fA0)) (fAc (fC (.dict [(.none, .none)])) fA0))) R1 S1 = .ok (.d (.list [x1, x2, .dict [(.none, .none)]])) S3 :=
    ev_L (ev_ac f17a (ev_ac f17b (ev_one rfl))) rfl
  obtain ⟨b, hi⟩ := isi_any x S4
  have fin : ∀ r : RF, (fRet (fOrV (f1 (gIsiA "str") (fVar 9)) (fCall 2 (callN (n + 5) 12) (fAc (fCall 1 (callN (n + 5) 21) (fAc (fVar 9) fA0)) (fAc (fL gTup (fAc (fC (.str "wrong")) (fAc (fC (.int 0)) fA0))) fA0))))) R2 S4 = r → runB 10 (b23 (callN (n + 5))) [scriptW ns] [] = toR r := fun r hr => by
    show toR (b23 (callN (n + 5)) [some (scriptW ns), none, none, none, none, none, none, none, none, none] []) = _
    unfold b23
    refine congrArg toR ?_
    refine (ev_seq (ρ1 := [some (scriptW ns), some (.loc 0), none, none, none, none, none, none, none, none]) (S1 := [bag.so]) (ev_asg ?_)).trans ?_
    · show (if ([scriptW ns] : List W).length = 1 then callN (n + 4 + 1) 9 [scriptW ns] [] else R.bad) = _
      rw [if_pos (show ([scriptW ns] : List W).length = 1 from rfl)]
      exact e0
    refine (ev_seq (ρ1 := R1) (S1 := S1) ?_).trans ?_
    · have it2 : fRng rng1 (fAc (fC (.int 8)) fA0) [some (scriptW ns), some (.loc 0), none, none, none, none, none, none, none, none] [bag.so] = .ok ⟨rangeW 0 8, fun _ => True⟩ [bag.so] := rng_nat 8 (by decide)
      unfold fFor
      rw [it2]
      exact e1
    refine (ev_seq (ρ1 := R2) (S1 := S4) (ev_asg (fcall_at (ws := [.loc 0, .d (.list [x1, x2, .dict [(.none, .none)]])]) (ev_ac (ev_var rfl) (ev_one lst)) e4 z4 rfl))).trans ?_
    exact hr
  cases b with
  | true =>
    refine ⟨S4, (fin (.ret (bt true) S4) (ev_ret ?_)).trans rfl⟩
    simp only [R2, fOrV, f1, fVar, List.getElem?_cons_zero, List.getElem?_cons_succ, R_ok, hi, lift_some]
  | false =>
    have hh := k_heard_odd n (w := .d x) (S := S4) hi
    have f21 : fCall 1 (callN (n + 5) 21) (fAc (fVar 9) fA0) R2 S4 = .ok (.d (.tuple [.str "wrong", .int 0])) S4 := fcall_at (ws := [.d x]) rfl hh rfl rfl
    have f12 : fCall 2 (callN (n + 5) 12) (fAc (fCall 1 (callN (n + 5) 21) (fAc (fVar 9) fA0)) (fAc (fL gTup (fAc (fC (.str "wrong")) (fAc (fC (.int 0)) fA0))) fA0)) R2 S4 = .ok (bt true) S4 :=
      fcall_at (ws := [.d (.tuple [.str "wrong", .int 0]), .d (.tuple [.str "wrong", .int 0])]) (ev_ac f21 (ev_one rfl)) (k_alike (n + 4) (d := .tuple [.str "wrong", .int 0]) (by rw [asD]) (by rw [asD]) fine_wrong) rfl rfl
    refine ⟨S4, (fin (.ret (bt true) S4) (ev_ret ?_)).trans rfl⟩
    have v9 : f1 (gIsiA "str") (fVar 9) R2 S4 = .ok (bt false) S4 := ev_f1 (ev_var rfl) hi
    unfold fOrV
    rw [v9]
    exact f12
theorem good6 : ∀ ns : List Int, ns.length ≤ 63 → (∀ z ∈ ns, Builtin.Int.intBits z ≤ 1048576) → ∃ S', callN (40 + 1) 23 [scriptW ns] [] = .ok (.d (.bool true)) S' := fun ns h _ => by
  obtain ⟨S', e⟩ := k_law 35 h
  refine ⟨S', ?_⟩
  show (if 2 ≤ 40 then runB 10 (b23 (callN 40)) [scriptW ns] [] else R.bad) = _
  rw [if_pos (by decide)]
  exact e
end VI
set_option Elab.async false
set_option linter.all false
set_option maxRecDepth 100000
set_option maxHeartbeats 0
namespace VI
open PySem PySem.Spec PyProof.Rows L2
abbrev RR : PySem.W.OpenRow := PySem.W.OpenLaw.row PySem.Challenge.rw_kindsworn_k06_words_of_texts
def dfn (x : Str) (st : Stmt) : He.DefD := ⟨(x, none), x, x, defArgs st, defBody st, defScope st, [], []⟩
def clsSt (i j : Nat) : Stmt := match topS i with
  | .ClassDef _ _ _ b _ _ _ _ _ _ _ => b.getD j (.Pass ⟨0, 0, 0, 0⟩)
  | s => s
def fns : List He.DefD := [dfn "run_end" st0, dfn "name_end" st1, dfn "word_end" st2, dfn "are_plain_digits" st3, dfn "is_number_word" st4, dfn "number_told" st5, dfn "name_fault" st6, dfn "fault_in" st7, dfn "words_of" st8, dfn "_law_bag" st9, dfn "_law_take" st10, dfn "_law_some" st11, dfn "_law_alike" st12, dfn "_law_barred" st13, dfn "_law_small_signs" st14, dfn "_law_great_signs" st15, dfn "_law_figures" st16, dfn "_law_odd" st17, dfn "_law_scanned" st18, dfn "_law_run_from" st19, dfn "_law_word_at" st20, dfn "_law_heard" st21, dfn "_law_near_word" st22, dfn "law" st23, ⟨("NoText", some "__init__"), "__init__", "NoText.__init__", defArgs (clsSt 2 0), defBody (clsSt 2 0), defScope (clsSt 2 0), [], []⟩, ⟨("Nothing", some "__init__"), "__init__", "Nothing.__init__", defArgs (clsSt 3 0), defBody (clsSt 3 0), defScope (clsSt 3 0), [], []⟩, ⟨("Wrong", some "__init__"), "__init__", "Wrong.__init__", defArgs (clsSt 4 0), defBody (clsSt 4 0), defScope (clsSt 4 0), [], []⟩]
def fas : List He.Fa := [.glo "run_end", .glo "name_end", .glo "word_end", .glo "are_plain_digits", .glo "is_number_word", .glo "number_told", .glo "name_fault", .glo "fault_in", .glo "words_of", .glo "_law_bag", .glo "_law_take", .glo "_law_some", .glo "_law_alike", .glo "_law_barred", .glo "_law_small_signs", .glo "_law_great_signs", .glo "_law_figures", .glo "_law_odd", .glo "_law_scanned", .glo "_law_run_from", .glo "_law_word_at", .glo "_law_heard", .glo "_law_near_word", .glo "law", .glo "SwornError", .glo "NoText", .glo "Nothing", .glo "Wrong", .free "abs", .free "int", .free "isinstance", .free "len", .free "range", .free "repr", .free "str", .free "tuple", .exm "Wrong" "NoText" false, .exm "Wrong" "Wrong" true, .exm "Wrong" "SwornError" true, .exm "SwornError" "NoText" false, .exm "SwornError" "Wrong" false, .exm "SwornError" "SwornError" true, .exm "NoText" "NoText" true, .exm "NoText" "Wrong" false, .exm "NoText" "SwornError" true, .meth "NoText" "__init__", .noat "NoText" "line", .noat "NoText" "column", .meth "Wrong" "__init__", .noat "Wrong" "place", .meth "Nothing" "__init__"]
def exL (K : PySem.W.Frag) : List Bool := [oexB K (He.ga K "NoText"), oexB K (He.ga K "Wrong"), L2.xfB K (He.ga K "NoText"), L2.xfB K (He.ga K "Wrong"), oexB K (He.ga K "Nothing"), otB K (He.ga K "Nothing"), decide (PySem.W.typeIn K (.ref (He.ma K (He.ga K "Nothing") "__init__")) = some (.type "function")), decide (PySem.W.typeIn K (.ref (He.ma K (He.ga K "NoText") "__init__")) = some (.type "function")), decide (PySem.W.typeIn K (.ref (He.ma K (He.ga K "Wrong") "__init__")) = some (.type "function")), conB K "GREAT_LETTERS" k_GREAT_LETTERS, conB K "NAME_SIGNS" k_NAME_SIGNS, conB K "BARRED" k_BARRED, conB K "LONGEST_NAME" k_LONGEST_NAME, conB K "LEAST_NUMBER" k_LEAST_NUMBER, conB K "GREATEST_NUMBER" k_GREATEST_NUMBER, conB K "LETTERS" k_LETTERS, conB K "DIGITS" k_DIGITS, conB K "WORD_SIGNS" k_WORD_SIGNS, conB K "MOST_DIGITS" k_MOST_DIGITS, conB K "LONGEST_NUMBER" k_LONGEST_NUMBER]
def exs (K : PySem.W.Frag) : Bool := (exL K).all id
abbrev hk : PySem.W.Hook := hookV 6 fas fns exs
def ob (s : PySem.W.SharedT) : He.AlD × Bool := obsV 6 fas fns exs (HandSHeadRun.getT s)
theorem ob_eq (s : PySem.W.SharedT) : ob s = hk.obs s.abs := obsV_eq (HandSHeadRun.getT_eq s)
def loose0 : List PySem.Str := ["SwornError", "NoText", "Nothing", "Wrong", "GREAT_LETTERS", "NAME_SIGNS", "BARRED", "LONGEST_NAME", "LEAST_NUMBER", "GREATEST_NUMBER", "LETTERS", "DIGITS", "WORD_SIGNS", "MOST_DIGITS", "LONGEST_NUMBER"]
def loose1 : List PySem.Str := ["run_end", "name_end", "word_end", "are_plain_digits", "is_number_word", "number_told", "name_fault", "fault_in", "words_of", "_law_bag", "_law_take", "_law_some", "_law_alike", "_law_barred", "_law_small_signs"]
def loose2 : List PySem.Str := ["_law_great_signs", "_law_figures", "_law_odd", "_law_scanned", "_law_run_from", "_law_word_at", "_law_heard", "_law_near_word"]
def loose : List PySem.Str := loose0 ++ (loose1 ++ (loose2))
theorem run (w : World) : HandSHeadRun.RunEq RR (PySem.W.view RR.prog [41]) hk ob 8000 loose w := by
  intro os
  kernel_rfl
/-! what the defs are told -/
def ctK (K : PySem.W.Frag) : Nat → Option Addr
  | 0 => some (He.ga K "SwornError")
  | 1 => some (He.ga K "NoText")
  | 3 => some (He.ga K "Wrong")
  | _ => none
section
variable {P : Program} {w : World} {K : PySem.W.Frag} {h : Heap} {mg : Str → Option Value}
theorem r_NoText (X : K.In h) (G : h.Ns mainGlobals mg) (S : He.SaysD fas fns K) (e : exs K = true) : ∀ base, KRaise P w K mg base (ctK K) 1 "NoText" ["line", "column"] := fun base => ⟨He.ga K "NoText", rfl, ownX_two (qual := "NoText.__init__") (pr := defArgs (clsSt 2 0)) (body := defBody (clsSt 2 0)) (sc := defScope (clsSt 2 0)) X G (S.fact 25) (all_at (l := exL K) e 0) (S.fact 45) (all_at (l := exL K) e 7) (S.fact 46) (S.fact 47) (S.def_ 24) ⟨rfl, rfl, rfl, by decide +kernel, rfl, by decide +kernel, by decide +kernel⟩ (fun _ _ _ _ _ _ us hl => match us, hl with | [_, _, _], _ => rfl) (fun _ _ _ _ _ _ => (pss_cons (ps_ost (pe_var rfl (by first | exact Or.inl rfl | exact Or.inr (Or.inl rfl) | exact Or.inr (Or.inr rfl))) (pe_var rfl (by first | exact Or.inl rfl | exact Or.inr (Or.inl rfl) | exact Or.inr (Or.inr rfl)))) (pss_one (ps_ost (pe_var rfl (by first | exact Or.inl rfl | exact Or.inr (Or.inl rfl) | exact Or.inr (Or.inr rfl))) (pe_var rfl (by first | exact Or.inl rfl | exact Or.inr (Or.inl rfl) | exact Or.inr (Or.inr rfl)))))))⟩
theorem r_Wrong (X : K.In h) (G : h.Ns mainGlobals mg) (S : He.SaysD fas fns K) (e : exs K = true) : ∀ base, KRaise P w K mg base (ctK K) 3 "Wrong" ["place"] := fun base => ⟨He.ga K "Wrong", rfl, ownX_one (qual := "Wrong.__init__") (pr := defArgs (clsSt 4 0)) (body := defBody (clsSt 4 0)) (sc := defScope (clsSt 4 0)) X G (S.fact 27) (all_at (l := exL K) e 1) (S.fact 48) (all_at (l := exL K) e 8) (S.fact 49) (S.def_ 26) ⟨rfl, rfl, rfl, by decide +kernel, rfl, by decide +kernel, by decide +kernel⟩ (fun _ _ _ _ _ _ us hl => match us, hl with | [_, _], _ => rfl) (fun _ _ _ _ _ _ => (pss_one (ps_ost (pe_var rfl (by first | exact Or.inl rfl | exact Or.inr (Or.inl rfl) | exact Or.inr (Or.inr rfl))) (pe_var rfl (by first | exact Or.inl rfl | exact Or.inr (Or.inl rfl) | exact Or.inr (Or.inr rfl))))))⟩
theorem w_Nothing (X : K.In h) (G : h.Ns mainGlobals mg) (S : He.SaysD fas fns K) (e : exs K = true) : ∀ base, KMake P w K mg base "Nothing" := fun base => ownN_of (qual := "Nothing.__init__") (pr := defArgs (clsSt 3 0)) (body := defBody (clsSt 3 0)) (sc := defScope (clsSt 3 0)) X G (S.fact 26) (all_at (l := exL K) e 4) (all_at (l := exL K) e 5) (S.fact 50) (all_at (l := exL K) e 6) (S.def_ 25) ⟨rfl, rfl, rfl, by decide +kernel, rfl, by decide +kernel, by decide +kernel⟩ (fun _ _ _ _ _ _ us hl => match us, hl with | [_], _ => rfl) (fun _ _ _ _ _ _ => pass_body)
theorem t_NoText (X : K.In h) (G : h.Ns mainGlobals mg) (S : He.SaysD fas fns K) (e : exs K = true) : KTake K mg (ctK K) subC 1 "NoText" := ⟨.ref (He.ga K "NoText"), He.glo_ok X G (S.fact 25), fun c C q => match c, q with
  | 0, q => by
    obtain rfl : He.ga K "SwornError" = C := Option.some.inj q
    exact He.exm_ok (S.fact 39)
  | 1, q => by
    obtain rfl : He.ga K "NoText" = C := Option.some.inj q
    exact He.exm_ok (S.fact 42)
  | 2, q => nomatch (show (none : Option Addr) = some C from q)
  | 3, q => by
    obtain rfl : He.ga K "Wrong" = C := Option.some.inj q
    exact He.exm_ok (S.fact 36)
  | n + 4, q => nomatch (show (none : Option Addr) = some C from q)⟩
theorem t_SwornError (X : K.In h) (G : h.Ns mainGlobals mg) (S : He.SaysD fas fns K) (e : exs K = true) : KTake K mg (ctK K) subC 0 "SwornError" := ⟨.ref (He.ga K "SwornError"), He.glo_ok X G (S.fact 24), fun c C q => match c, q with
  | 0, q => by
    obtain rfl : He.ga K "SwornError" = C := Option.some.inj q
    exact He.exm_ok (S.fact 41)
  | 1, q => by
    obtain rfl : He.ga K "NoText" = C := Option.some.inj q
    exact He.exm_ok (S.fact 44)
  | 2, q => nomatch (show (none : Option Addr) = some C from q)
  | 3, q => by
    obtain rfl : He.ga K "Wrong" = C := Option.some.inj q
    exact He.exm_ok (S.fact 38)
  | n + 4, q => nomatch (show (none : Option Addr) = some C from q)⟩
theorem t_Wrong (X : K.In h) (G : h.Ns mainGlobals mg) (S : He.SaysD fas fns K) (e : exs K = true) : KTake K mg (ctK K) subC 3 "Wrong" := ⟨.ref (He.ga K "Wrong"), He.glo_ok X G (S.fact 27), fun c C q => match c, q with
  | 0, q => by
    obtain rfl : He.ga K "SwornError" = C := Option.some.inj q
    exact He.exm_ok (S.fact 40)
  | 1, q => by
    obtain rfl : He.ga K "NoText" = C := Option.some.inj q
    exact He.exm_ok (S.fact 43)
  | 2, q => nomatch (show (none : Option Addr) = some C from q)
  | 3, q => by
    obtain rfl : He.ga K "Wrong" = C := Option.some.inj q
    exact He.exm_ok (S.fact 37)
  | n + 4, q => nomatch (show (none : Option Addr) = some C from q)⟩
theorem f_NoText_column (X : K.In h) (G : h.Ns mainGlobals mg) (S : He.SaysD fas fns K) (e : exs K = true) : KField K (ctK K) subC 1 "column" := fun C ⟨c, q⟩ => match c, q with
  | 0, q => absurd q.2 (by decide)
  | 1, q => by
    obtain rfl : He.ga K "NoText" = C := Option.some.inj q.1
    exact ⟨L2.xfB_ok (all_at (l := exL K) e 2), He.noat_ok (S.fact 47)⟩
  | 2, q => nomatch (show (none : Option Addr) = some C from q.1)
  | 3, q => absurd q.2 (by decide)
  | n + 4, q => nomatch (show (none : Option Addr) = some C from q.1)
theorem f_NoText_line (X : K.In h) (G : h.Ns mainGlobals mg) (S : He.SaysD fas fns K) (e : exs K = true) : KField K (ctK K) subC 1 "line" := fun C ⟨c, q⟩ => match c, q with
  | 0, q => absurd q.2 (by decide)
  | 1, q => by
    obtain rfl : He.ga K "NoText" = C := Option.some.inj q.1
    exact ⟨L2.xfB_ok (all_at (l := exL K) e 2), He.noat_ok (S.fact 46)⟩
  | 2, q => nomatch (show (none : Option Addr) = some C from q.1)
  | 3, q => absurd q.2 (by decide)
  | n + 4, q => nomatch (show (none : Option Addr) = some C from q.1)
theorem f_Wrong_place (X : K.In h) (G : h.Ns mainGlobals mg) (S : He.SaysD fas fns K) (e : exs K = true) : KField K (ctK K) subC 3 "place" := fun C ⟨c, q⟩ => match c, q with
  | 0, q => absurd q.2 (by decide)
  | 1, q => absurd q.2 (by decide)
  | 2, q => nomatch (show (none : Option Addr) = some C from q.1)
  | 3, q => by
    obtain rfl : He.ga K "Wrong" = C := Option.some.inj q.1
    exact ⟨L2.xfB_ok (all_at (l := exL K) e 3), He.noat_ok (S.fact 49)⟩
  | n + 4, q => nomatch (show (none : Option Addr) = some C from q.1)
theorem facts (X : K.In h) (G : h.Ns mainGlobals mg) (S : He.SaysD fas fns K) (e : exs K = true) : Facts P w K mg (ctK K) where
  r_NoText := r_NoText X G S e
  r_Wrong := r_Wrong X G S e
  t_NoText := t_NoText X G S e
  t_SwornError := t_SwornError X G S e
  t_Wrong := t_Wrong X G S e
  f_NoText_column := f_NoText_column X G S e
  f_NoText_line := f_NoText_line X G S e
  f_Wrong_place := f_Wrong_place X G S e
  w_Nothing := w_Nothing X G S e
  a0 := defAt_of X G (S.fact 0) (S.def_ 0)
  a1 := defAt_of X G (S.fact 1) (S.def_ 1)
  a2 := defAt_of X G (S.fact 2) (S.def_ 2)
  a3 := defAt_of X G (S.fact 3) (S.def_ 3)
  a4 := defAt_of X G (S.fact 4) (S.def_ 4)
  a5 := defAt_of X G (S.fact 5) (S.def_ 5)
  a6 := defAt_of X G (S.fact 6) (S.def_ 6)
  a7 := defAt_of X G (S.fact 7) (S.def_ 7)
  a8 := defAt_of X G (S.fact 8) (S.def_ 8)
  a9 := defAt_of X G (S.fact 9) (S.def_ 9)
  a10 := defAt_of X G (S.fact 10) (S.def_ 10)
  a11 := defAt_of X G (S.fact 11) (S.def_ 11)
  a12 := defAt_of X G (S.fact 12) (S.def_ 12)
  a13 := defAt_of X G (S.fact 13) (S.def_ 13)
  a14 := defAt_of X G (S.fact 14) (S.def_ 14)
  a15 := defAt_of X G (S.fact 15) (S.def_ 15)
  a16 := defAt_of X G (S.fact 16) (S.def_ 16)
  a17 := defAt_of X G (S.fact 17) (S.def_ 17)
  a18 := defAt_of X G (S.fact 18) (S.def_ 18)
  a19 := defAt_of X G (S.fact 19) (S.def_ 19)
  a20 := defAt_of X G (S.fact 20) (S.def_ 20)
  a21 := defAt_of X G (S.fact 21) (S.def_ 21)
  a22 := defAt_of X G (S.fact 22) (S.def_ 22)
  a23 := defAt_of X G (S.fact 23) (S.def_ 23)
  c_BARRED := conB_ok X G (all_at (l := exL K) e 11)
  c_DIGITS := conB_ok X G (all_at (l := exL K) e 16)
  c_GREATEST_NUMBER := conB_ok X G (all_at (l := exL K) e 14)
  c_GREAT_LETTERS := conB_ok X G (all_at (l := exL K) e 9)
  c_LEAST_NUMBER := conB_ok X G (all_at (l := exL K) e 13)
  c_LETTERS := conB_ok X G (all_at (l := exL K) e 15)
  c_LONGEST_NAME := conB_ok X G (all_at (l := exL K) e 12)
  c_LONGEST_NUMBER := conB_ok X G (all_at (l := exL K) e 19)
  c_MOST_DIGITS := conB_ok X G (all_at (l := exL K) e 18)
  c_NAME_SIGNS := conB_ok X G (all_at (l := exL K) e 10)
  c_WORD_SIGNS := conB_ok X G (all_at (l := exL K) e 17)
  b_abs := He.free_ok X G (S.fact 28)
  b_int := He.free_ok X G (S.fact 29)
  b_isinstance := He.free_ok X G (S.fact 30)
  b_len := He.free_ok X G (S.fact 31)
  b_range := He.free_ok X G (S.fact 32)
  b_repr := He.free_ok X G (S.fact 33)
  b_str := He.free_ok X G (S.fact 34)
  b_tuple := He.free_ok X G (S.fact 35)
end
end VI
set_option Elab.async false
set_option linter.all false
set_option maxRecDepth 100000
set_option maxHeartbeats 0
namespace VI
open PySem PySem.Spec PyProof.Rows L2
abbrev fuel : Nat := 40
end VI
open PySem PySem.W PySem.Calls PyProof.Rows
theorem holds_of (good : ∀ ns : List Int, ns.length ≤ 63 → (∀ z ∈ ns, Builtin.Int.intBits z ≤ 1048576) → ∃ S', VI.callN (VI.fuel + 1) 23 [VI.scriptW ns] [] = .ok (.d (.bool true)) S') : PySem.Challenge.rw_kindsworn_k06_words_of_texts.Holds := by
  w_on; o_law
  refine HandSHeadRun.head_any (r := OpenLaw.row PySem.Challenge.rw_kindsworn_k06_words_of_texts) (q := view (OpenLaw.row PySem.Challenge.rw_kindsworn_k06_words_of_texts).prog [41]) (H := VI.hk) (ob := VI.ob) (M := 8000) (loose := VI.loose) (d := HandSHeadRun.topDef (OpenLaw.row PySem.Challenge.rw_kindsworn_k06_words_of_texts).prog 41) (kwd := []) VI.ob_eq
    (by kernel_rfl) (fun s => by kernel_rfl) VI.run (by kernel_rfl) (by kernel_rfl) (by kernel_rfl) (by rfl) (by first | assumption | decide +kernel) (by decide +kernel) ⟨rfl, rfl, rfl, rfl, rfl, by decide +kernel⟩ ?hw ?hc
  case hw => w_witness2
  case hc =>
    refine VI.walk_K (l := PySem.Challenge.rw_kindsworn_k06_words_of_texts) (n := 63) (k := VI.fuel + 1) (x := "script") (g := VI.callN (VI.fuel + 1) 23) rfl (by decide) (by kernel_rfl) ⟨rfl, by decide, by decide⟩ ?F good
    intro w mg fa h Y G hmg0
    obtain ⟨K, KX, S, e⟩ := Y
    have hmg : mg ("law" : PySem.Str) = some (.ref fa) := by
      have e : (HandSHeadRun.topDef (OpenLaw.row PySem.Challenge.rw_kindsworn_k06_words_of_texts).prog 41).name = ("law" : PySem.Str) := by kernel_rfl
      rw [← e]
      exact hmg0
    have F : VI.Facts (PySem.Challenge.rw_kindsworn_k06_words_of_texts).prog w K mg (VI.ctK K) := VI.facts KX G S e
    obtain ⟨fd, hb, hF⟩ := VI.law2_of (n := VI.fuel) (by decide) (P := (PySem.Challenge.rw_kindsworn_k06_words_of_texts).prog) (w := w) (g := VI.callN (VI.fuel + 1) 23) F.a23 VI.bn23 hmg VI.sc23 (fun _ _ => rfl) fun base _ _ _ _ _ _ _ r gd => VI.d23 (VI.tab_all (base := base) F VI.fuel) (by decide) r gd
    exact ⟨K, VI.ctK K, fd, KX, hb, fun base _ _ => hF base⟩
open PySem PySem.W PyProof.Rows
set_option Elab.async false
set_option maxRecDepth 100000 in
set_option maxHeartbeats 0 in
theorem PySem.Challenge.cw_kindsworn_k06_words_of_texts_holds : PySem.Challenge.rw_kindsworn_k06_words_of_texts.Holds := by
  exact holds_of VI.good6
