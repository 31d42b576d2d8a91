import PyProof.Rows.All
import Wide.All
import OpenK.AllK
import Wide.FinOn
import HandS.ForMost
import HandS.ExcInit
import HandS.ExcIs
import HandS.IsInst
import HandS.HeadHook1
import HandS.TupAny
import HandS.Wide
import HandS.Zip
import KE.GoesNew
import KE.GoesMore
import HandS.Comp
import HandS.More
import HandS.Style
import HandS.HeadEnd
import HandS.EndBits
import HandS.Defaults
import HandS.Head0
import HandS.Head1
import HandS.Head2
import HandS.HeadHook2
import HandS.Text
import HandS.ExcOwn
import HandS.WordsExc
import HandS.TryMany
import HandS.ExcField
import PyProof.ExcReprCall
import HandS.Dict
import PyProof.TupleOfStr
import PyProof.StrBlock2
import HandS.RaiseMore
import HandS.TupMul
import HandS.SortOrd
import HandS.NamedTupSort
import KE.KSortAsk
import HandS.Conv
import HandS.SortInts
import HandS.Codes
import PySem.Challenge.RW_kindsworn_k69_collections_by_shapes
set_option Elab.async false
set_option linter.all false
set_option maxRecDepth 100000
namespace VI
open PySem PySem.Spec PyProof.Rows L2

/-! values: pure data; a live list or dict of the store; a tuple that holds live ones -/
inductive W where
  | d (x : PyData)
  | loc (l : Nat)
  | tp (xs : List W)
  | fro (xs : List PyData)
/-- a live object -/
inductive SO where
  | lst (xs : List PyData)
  | dK (kvs : List (Key × PyData))
  | dT (kvs : List (List Key × PyData))
  | ob (nm : Str) (fs : List (Str × W))
mutual
/-- every live one in it stands below n -/
def locsB (n : Nat) : W → Bool
  | .d _ => true
  | .fro _ => true
  | .loc l => decide (l < n)
  | .tp ws => locsBs n ws
def locsBs (n : Nat) : List W → Bool
  | [] => true
  | w :: ws => locsB n w && locsBs n ws
end
def WfO (l : Nat) : SO → Prop
  | .ob _ fs => locsBs l (fs.map (·.2)) = true
  | _ => True
abbrev Store := List SO
abbrev Rho := List (Option W)
inductive R (α : Type) where
  | ok (a : α) (S : Store)
  | exc (c : Nat) (fs : List (Str × W)) (S : Store)
  | bad
def R.bind {α β : Type} (r : R α) (k : α → Store → R β) : R β :=
  match r with
  | .ok a S => k a S
  | .exc c fs S => .exc c fs S
  | .bad => .bad
abbrev O := Option (W × Store)
def lift (o : O) : R W :=
  match o with
  | some (w, S) => .ok w S
  | none => .bad

/-! what stands for what -/
/-- a list that is only read: frozen, or one of the module -/
def SqF (K : PySem.W.Frag) (H : Hp) (a : Addr) (xs : List V) : Prop :=
  (∃ o, H a = some (.frz o (.lst xs))) ∨
    ∃ (o : Obj) (its : Array Value) (n : Nat), K.lookup a = some o ∧ o.cls = .type "list" ∧ o.dict = none ∧ o.data = .seq its n ∧ its.size ≤ sizeLine ∧ Vals xs its.toList
theorem SqF.seq {K : PySem.W.Frag} {H : Hp} {a : Addr} {xs : List V} (h : SqF K H a xs) : SqL K H a xs := by
  rcases h with ⟨o, h⟩ | h
  · exact .inl (.inr ⟨o, h⟩)
  · exact .inr h
def tys : List String := ["NoneType", "bool", "int", "str", "list", "tuple", "dict"]
/-- a class of the module's own over the exceptions, no built-in type being above it but these -/
structure OwnT (K : PySem.W.Frag) (C : Addr) : Prop where
  exc : L2.ExcC K C
  not : ∀ T ∈ tys, PySem.W.kitOne K (.ref C) (.type T) = some false
/-- an own exception whose arguments are kept: its tuple at t1 -/
def exoT (e C : Addr) (d : Option Addr) (t1 : Addr) : HO := .ext fun h => h.get? e = some ⟨.ref C, d, .fields #[.ref t1, .none, .none, .none, .bool false, .none], #[]⟩
/-- what is asked of its class -/
structure OwnE (K : PySem.W.Frag) (C : Addr) (nm : Str) : Prop where
  ot : OwnT K C
  rep : PySem.W.findIn K (.ref C) "__repr__" = some (some (.builtin "BaseException.__repr__"))
  name : ∃ cd, PySem.W.clsIn K C = some cd ∧ Str.ofString ((cd.name.toString.cutAt '.').getLastD "") = nm
  short : nm.length ≤ 1000
def keyD : Key → PyData
  | .inl i => .int i
  | .inr x => .str x
mutual
inductive RepD (K : PySem.W.Frag) (η : List Addr) (H : Hp) : PyData → V → Prop
  | none : RepD K η H .none .non
  | bool (b : Bool) : RepD K η H (.bool b) (.bl b)
  | int (i : Int) : RepD K η H (.int i) (.int i)
  | str (x : Str) : RepD K η H (.str x) (.str x)
  | list {a : Addr} {vs : List V} {ds : List PyData} : H a = some (.lst vs) → a ∉ η → RepDs K η H ds vs → RepD K η H (.list ds) (.ref a)
  | tuple {a : Addr} {vs : List V} {ds : List PyData} : SqT K H a vs → RepDs K η H ds vs → RepD K η H (.tuple ds) (.ref a)
  | dct {a : Addr} {kvs : List (Key × V)} : H a = some (.dK kvs) → a ∉ η → RepD K η H (.dict []) (.ref a)
  | own {a C : Addr} : H a = some (exo a C none) → a ∉ η → OwnT K C → RepD K η H (.dict [(.none, .none)]) (.ref a)
  | dctE {a : Addr} {ps : List (PyData × PyData)} {vs : List (Key × V)} : H a = some (.dK vs) → a ∉ η → ps.map (·.1) = vs.map (fun p => keyD p.1) → RepDs K η H (ps.map (·.2)) (vs.map (·.2)) → RepD K η H (.dict ((.bool true, .none) :: ps)) (.ref a)
  | ownE {a C t1 dx : Addr} {nm f : Str} {i : Int} : H a = some (exoT a C (some dx) t1) → H t1 = some (.tup [.int i]) → H dx = some (exd dx [(f, .int i)]) → a ∉ η → dx ∉ η → OwnE K C nm → RepD K η H (.dict [(.bool false, .str nm), (.none, .int i)]) (.ref a)
inductive RepDs (K : PySem.W.Frag) (η : List Addr) (H : Hp) : List PyData → List V → Prop
  | nil : RepDs K η H [] []
  | cons {d : PyData} {ds : List PyData} {v : V} {vs : List V} : RepD K η H d v → RepDs K η H ds vs → RepDs K η H (d :: ds) (v :: vs)
end
mutual
inductive RepW (K : PySem.W.Frag) (η : List Addr) (H : Hp) : W → V → Prop
  | d {x : PyData} {v : V} : RepD K η H x v → RepW K η H (.d x) v
  | loc {l : Nat} {a : Addr} : η[l]? = some a → RepW K η H (.loc l) (.ref a)
  | tp {a : Addr} {vs : List V} {ws : List W} : SqT K H a vs → RepWs K η H ws vs → RepW K η H (.tp ws) (.ref a)
  | fro {a : Addr} {vs : List V} {ds : List PyData} : SqF K H a vs → RepDs K η H ds vs → RepW K η H (.fro ds) (.ref a)
inductive RepWs (K : PySem.W.Frag) (η : List Addr) (H : Hp) : List W → List V → Prop
  | nil : RepWs K η H [] []
  | cons {w : W} {ws : List W} {v : V} {vs : List V} : RepW K η H w v → RepWs K η H ws vs → RepWs K η H (w :: ws) (v :: vs)
end
/-- no instance of an own class -/
def NotIns : HO → Prop
  | .ins _ _ _ => False
  | _ => True
/-- what comes later: more live objects, and nothing but live ones changed -/
structure Fu (η : List Addr) (H : Hp) (η' : List Addr) (H' : Hp) : Prop where
  px : ∃ r, η' = η ++ r
  nw : ∀ a ∈ η', a ∈ η ∨ H a = none
  tk : ∀ a, H' a = none → H a = none
  tp : ∀ a xs, H a = some (.tup xs) → H' a = some (.tup xs)
  fz : ∀ a o u, H a = some (.frz o u) → H' a = some (.frz o u)
  ls : ∀ a o, a ∉ η → H a = some o → H' a = some o
theorem Fu.refl (η : List Addr) (H : Hp) : Fu η H η H := ⟨⟨[], by simp⟩, fun a h => .inl h, fun _ h => h, fun _ _ h => h, fun _ _ _ h => h, fun _ _ _ h => h⟩
/-- .. and instances that are not live -/
structure Fw (η : List Addr) (H : Hp) (η' : List Addr) (H' : Hp) : Prop where
  px : ∃ r, η' = η ++ r
  nw : ∀ a ∈ η', a ∈ η ∨ ∀ o, NotIns o → H a ≠ some o
  tp : ∀ a xs, H a = some (.tup xs) → H' a = some (.tup xs)
  fz : ∀ a o u, H a = some (.frz o u) → H' a = some (.frz o u)
  ls : ∀ a o, a ∉ η → NotIns o → H a = some o → H' a = some o
theorem Fu.w {η : List Addr} {H : Hp} {η' : List Addr} {H' : Hp} (f : Fu η H η' H') : Fw η H η' H' := ⟨f.px, fun a m => (f.nw a m).imp id (fun z o _ e => by rw [z] at e; cases e), f.tp, f.fz, fun a o n _ h => f.ls a o n h⟩
section
variable {K : PySem.W.Frag} {η η' η2 : List Addr} {H H' H2 : Hp}
theorem Fu.out (f : Fu η H η' H') {a : Addr} {o : HO} (h : a ∉ η) (e : H a = some o) : a ∉ η' := fun m => by
  rcases f.nw a m with z | z
  · exact h z
  · rw [z] at e; cases e
theorem Fu.trans (f : Fu η H η' H') (g : Fu η' H' η2 H2) : Fu η H η2 H2 := by
  obtain ⟨r, e⟩ := f.px
  obtain ⟨r2, e2⟩ := g.px
  refine ⟨⟨r ++ r2, by rw [e2, e, List.append_assoc]⟩, fun a m => ?_, fun a h => f.tk a (g.tk a h), fun a xs h => g.tp a xs (f.tp a xs h), fun a o u h => g.fz a o u (f.fz a o u h), fun a xs n h => g.ls a xs (f.out n h) (f.ls a xs n h)⟩
  rcases g.nw a m with z | z
  · exact f.nw a z
  · exact .inr (f.tk a z)
theorem Fu.get (f : Fu η H η' H') {l : Nat} {a : Addr} (h : η[l]? = some a) : η'[l]? = some a := by
  obtain ⟨r, e⟩ := f.px
  rw [e, List.getElem?_append_left (List.getElem?_eq_some_iff.mp h).1]
  exact h
theorem Fw.out (f : Fw η H η' H') {a : Addr} {o : HO} (h : a ∉ η) (e : H a = some o) (i : NotIns o) : a ∉ η' := fun m => by
  rcases f.nw a m with z | z
  · exact h z
  · exact z o i e
theorem Fw.get (f : Fw η H η' H') {l : Nat} {a : Addr} (h : η[l]? = some a) : η'[l]? = some a := by
  obtain ⟨r, e⟩ := f.px
  rw [e, List.getElem?_append_left (List.getElem?_eq_some_iff.mp h).1]
  exact h
theorem SqT.fw (f : Fw η H η' H') {a : Addr} {xs : List V} (h : SqT K H a xs) : SqT K H' a xs := by
  rcases h with (h | ⟨o, h⟩) | h
  · exact .inl (.inl (f.tp _ _ h))
  · exact .inl (.inr ⟨o, f.fz _ _ _ h⟩)
  · exact .inr h
theorem SqF.fw (f : Fw η H η' H') {a : Addr} {xs : List V} (h : SqF K H a xs) : SqF K H' a xs := by
  rcases h with ⟨o, h⟩ | h
  · exact .inl ⟨o, f.fz _ _ _ h⟩
  · exact .inr h
mutual
theorem RepD.fw (f : Fw η H η' H') : ∀ {x : PyData} {v : V}, RepD K η H x v → RepD K η' H' x v
  | _, _, .none => .none
  | _, _, .bool _ => .bool _
  | _, _, .int _ => .int _
  | _, _, .str _ => .str _
  | _, _, .list h1 h3 h2 => .list (f.ls _ _ h3 True.intro h1) (f.out h3 h1 True.intro) (RepDs.fw f h2)
  | _, _, .tuple h1 h2 => .tuple (SqT.fw f h1) (RepDs.fw f h2)
  | _, _, .dct h1 h2 => .dct (f.ls _ _ h2 True.intro h1) (f.out h2 h1 True.intro)
  | _, _, .own h1 h2 h3 => .own (f.ls _ _ h2 True.intro h1) (f.out h2 h1 True.intro) h3
  | _, _, .dctE h1 h2 h3 h4 => .dctE (f.ls _ _ h2 True.intro h1) (f.out h2 h1 True.intro) h3 (RepDs.fw f h4)
  | _, _, .ownE h1 h2 h3 h4 h5 h6 => .ownE (f.ls _ _ h4 True.intro h1) (f.tp _ _ h2) (f.ls _ _ h5 True.intro h3) (f.out h4 h1 True.intro) (f.out h5 h3 True.intro) h6
theorem RepDs.fw (f : Fw η H η' H') : ∀ {xs : List PyData} {vs : List V}, RepDs K η H xs vs → RepDs K η' H' xs vs
  | _, _, .nil => .nil
  | _, _, .cons h1 h2 => .cons (RepD.fw f h1) (RepDs.fw f h2)
end
theorem SqT.fu (f : Fu η H η' H') {a : Addr} {xs : List V} (h : SqT K H a xs) : SqT K H' a xs := SqT.fw f.w h
theorem SqF.fu (f : Fu η H η' H') {a : Addr} {xs : List V} (h : SqF K H a xs) : SqF K H' a xs := SqF.fw f.w h
theorem RepD.fu (f : Fu η H η' H') (x : PyData) (v : V) (h : RepD K η H x v) : RepD K η' H' x v := RepD.fw f.w h
theorem RepDs.fu (f : Fu η H η' H') (x : List PyData) (v : List V) (h : RepDs K η H x v) : RepDs K η' H' x v := RepDs.fw f.w h
mutual
theorem RepW.fw (f : Fw η H η' H') : ∀ {x : W} {v : V}, RepW K η H x v → RepW K η' H' x v
  | _, _, .d h => .d (RepD.fw f h)
  | _, _, .loc h => .loc (f.get h)
  | _, _, .tp h1 h2 => .tp (SqT.fw f h1) (RepWs.fw f h2)
  | _, _, .fro h1 h2 => .fro (SqF.fw f h1) (RepDs.fw f h2)
theorem RepWs.fw (f : Fw η H η' H') : ∀ {xs : List W} {vs : List V}, RepWs K η H xs vs → RepWs K η' H' xs vs
  | _, _, .nil => .nil
  | _, _, .cons h1 h2 => .cons (RepW.fw f h1) (RepWs.fw f h2)
end
theorem RepW.fu (f : Fu η H η' H') (x : W) (v : V) (h : RepW K η H x v) : RepW K η' H' x v := RepW.fw f.w h
theorem RepWs.fu (f : Fu η H η' H') (x : List W) (v : List V) (h : RepWs K η H x v) : RepWs K η' H' x v := RepWs.fw f.w h
theorem RepWs.length : ∀ {ws : List W} {vs : List V}, RepWs K η H ws vs → ws.length = vs.length
  | [], _, h => by cases h; rfl
  | w :: ws, _, h => by cases h with | cons _ h2 => rw [List.length_cons, List.length_cons, RepWs.length h2]
theorem RepDs.length : ∀ {ws : List PyData} {vs : List V}, RepDs K η H ws vs → ws.length = vs.length
  | [], _, h => by cases h; rfl
  | w :: ws, _, h => by cases h with | cons _ h2 => rw [List.length_cons, List.length_cons, RepDs.length h2]
theorem RepDs.get : ∀ {ws : List PyData} {vs : List V} {i : Nat} {w : PyData}, RepDs K η H ws vs → ws[i]? = some w → ∃ v, vs[i]? = some v ∧ RepD K η H w v
  | [], _, _, _, _, e => by simp at e
  | x :: xs, _, 0, w, h, e => by
    cases h with
    | cons h1 h2 =>
      simp at e
      subst e
      exact ⟨_, rfl, h1⟩
  | x :: xs, _, i + 1, w, h, e => by
    cases h with
    | cons h1 h2 =>
      obtain ⟨v, e1, e2⟩ := RepDs.get (i := i) (w := w) h2 (by simpa using e)
      exact ⟨v, by simpa using e1, e2⟩
theorem RepWs.get : ∀ {ws : List W} {vs : List V} {i : Nat} {w : W}, RepWs K η H ws vs → ws[i]? = some w → ∃ v, vs[i]? = some v ∧ RepW K η H w v
  | [], _, _, _, _, e => by simp at e
  | x :: xs, _, 0, w, h, e => by
    cases h with
    | cons h1 h2 =>
      simp at e
      subst e
      exact ⟨_, rfl, h1⟩
  | x :: xs, _, i + 1, w, h, e => by
    cases h with
    | cons h1 h2 =>
      obtain ⟨v, e1, e2⟩ := RepWs.get (i := i) (w := w) h2 (by simpa using e)
      exact ⟨v, by simpa using e1, e2⟩
theorem RepWs.append : ∀ {ws ws' : List W} {vs vs' : List V}, RepWs K η H ws vs → RepWs K η H ws' vs' → RepWs K η H (ws ++ ws') (vs ++ vs')
  | [], _, _, _, h, h' => by cases h; exact h'
  | w :: ws, _, _, _, h, h' => by cases h with | cons h1 h2 => exact .cons h1 (RepWs.append h2 h')
theorem RepDs.append : ∀ {ws ws' : List PyData} {vs vs' : List V}, RepDs K η H ws vs → RepDs K η H ws' vs' → RepDs K η H (ws ++ ws') (vs ++ vs')
  | [], _, _, _, h, h' => by cases h; exact h'
  | w :: ws, _, _, _, h, h' => by cases h with | cons h1 h2 => exact .cons h1 (RepDs.append h2 h')
theorem RepDs.take : ∀ {ws : List PyData} {vs : List V} (n : Nat), RepDs K η H ws vs → RepDs K η H (ws.take n) (vs.take n)
  | _, _, 0, _ => by simp only [List.take_zero]; exact .nil
  | [], _, _ + 1, h => by cases h; exact .nil
  | w :: ws, _, n + 1, h => by cases h with | cons h1 h2 => exact .cons h1 (RepDs.take n h2)
theorem RepDs.drop : ∀ {ws : List PyData} {vs : List V} (n : Nat), RepDs K η H ws vs → RepDs K η H (ws.drop n) (vs.drop n)
  | _, _, 0, h => h
  | [], _, _ + 1, h => by cases h; exact .nil
  | w :: ws, _, n + 1, h => by cases h with | cons h1 h2 => exact RepDs.drop n h2
theorem RepWs.take : ∀ {ws : List W} {vs : List V} (n : Nat), RepWs K η H ws vs → RepWs K η H (ws.take n) (vs.take n)
  | _, _, 0, _ => by simp only [List.take_zero]; exact .nil
  | [], _, _ + 1, h => by cases h; exact .nil
  | w :: ws, _, n + 1, h => by cases h with | cons h1 h2 => exact .cons h1 (RepWs.take n h2)
theorem RepWs.drop : ∀ {ws : List W} {vs : List V} (n : Nat), RepWs K η H ws vs → RepWs K η H (ws.drop n) (vs.drop n)
  | _, _, 0, h => h
  | [], _, _ + 1, h => by cases h; exact .nil
  | w :: ws, _, n + 1, h => by cases h with | cons h1 h2 => exact RepWs.drop n h2
theorem RepWs.set {w : W} {v : V} (r : RepW K η H w v) : ∀ {ws : List W} {vs : List V} (n : Nat), RepWs K η H ws vs → RepWs K η H (ws.set n w) (vs.set n v)
  | [], _, n, h => by cases h; exact .nil
  | x :: ws, _, 0, h => by cases h with | cons h1 h2 => exact .cons r h2
  | x :: ws, _, n + 1, h => by cases h with | cons h1 h2 => exact .cons h1 (RepWs.set r n h2)
theorem RepDs.set {w : PyData} {v : V} (r : RepD K η H w v) : ∀ {ws : List PyData} {vs : List V} (n : Nat), RepDs K η H ws vs → RepDs K η H (ws.set n w) (vs.set n v)
  | [], _, n, h => by cases h; exact .nil
  | x :: ws, _, 0, h => by cases h with | cons h1 h2 => exact .cons r h2
  | x :: ws, _, n + 1, h => by cases h with | cons h1 h2 => exact .cons h1 (RepDs.set r n h2)
theorem RepDs.eraseIdx : ∀ {ws : List PyData} {vs : List V} (n : Nat), RepDs K η H ws vs → RepDs K η H (ws.eraseIdx n) (vs.eraseIdx n)
  | [], _, n, h => by cases h; exact .nil
  | x :: ws, _, 0, h => by cases h with | cons h1 h2 => exact h2
  | x :: ws, _, n + 1, h => by cases h with | cons h1 h2 => exact .cons h1 (RepDs.eraseIdx n h2)
theorem RepDs.dropLast {ws : List PyData} {vs : List V} (h : RepDs K η H ws vs) : RepDs K η H ws.dropLast vs.dropLast := by
  rw [List.dropLast_eq_take, List.dropLast_eq_take, h.length]
  exact h.take _
theorem RepDs.reverse : ∀ {ws : List PyData} {vs : List V}, RepDs K η H ws vs → RepDs K η H ws.reverse vs.reverse
  | [], _, h => by cases h; exact .nil
  | x :: ws, _, h => by
    cases h with
    | cons h1 h2 =>
      rw [List.reverse_cons, List.reverse_cons]
      exact (RepDs.reverse h2).append (.cons h1 .nil)
theorem RepWs.ofD : ∀ {ds : List PyData} {vs : List V}, RepDs K η H ds vs → RepWs K η H (ds.map W.d) vs
  | [], _, h => by cases h; exact .nil
  | x :: xs, _, h => by cases h with | cons h1 h2 => exact .cons (.d h1) (RepWs.ofD h2)
/-- all are pure data -/
def datas : List W → Option (List PyData)
  | [] => some []
  | .d x :: r => (datas r).map (x :: ·)
  | _ :: _ => none
theorem datas_ok : ∀ {ws : List W} {ds : List PyData} {vs : List V}, datas ws = some ds → RepWs K η H ws vs → RepDs K η H ds vs
  | [], ds, vs, e, h => by cases e; cases h; exact .nil
  | .d x :: r, ds, vs, e, h => by
    cases h with
    | cons h1 h2 =>
      cases h1 with
      | d h1 =>
        cases q : datas r with
        | none => rw [datas, q] at e; cases e
        | some ds' =>
          rw [datas, q] at e
          cases e
          exact .cons h1 (datas_ok q h2)
  | .loc _ :: _, ds, vs, e, h => by cases e
  | .tp _ :: _, ds, vs, e, h => by cases e
  | .fro _ :: _, ds, vs, e, h => by cases e
theorem datas_map : ∀ ds : List PyData, datas (ds.map W.d) = some ds
  | [] => rfl
  | x :: xs => by rw [List.map_cons, datas, datas_map xs]; rfl
end

/-! the store -/
def ORep (K : PySem.W.Frag) (η : List Addr) (H : Hp) (a : Addr) : SO → Prop
  | .lst ws => ∃ vs, H a = some (.lst vs) ∧ RepDs K η H ws vs
  | .dK kvs => ∃ vs, H a = some (.dK vs) ∧ kvs.map (·.1) = vs.map (·.1) ∧ RepDs K η H (kvs.map (·.2)) (vs.map (·.2))
  | .dT kvs => ∃ vs, H a = some (.dT vs) ∧ kvs.map (·.1) = vs.map (·.1) ∧ RepDs K η H (kvs.map (·.2)) (vs.map (·.2))
  | .ob nm fs => ∃ dx vs, H a = some (.ins (He.ga K nm) dx vs) ∧ fs.map (·.1) = vs.map (·.1) ∧ RepWs K η H (fs.map (·.2)) (vs.map (·.2))
theorem ORep.there {K : PySem.W.Frag} {η : List Addr} {H : Hp} {a : Addr} : ∀ {o : SO}, ORep K η H a o → ∃ u, H a = some u ∧ Mut (some u)
  | .lst _, ⟨_, h, _⟩ => ⟨_, h, trivial⟩
  | .dK _, ⟨_, h, _⟩ => ⟨_, h, trivial⟩
  | .dT _, ⟨_, h, _⟩ => ⟨_, h, trivial⟩
  | .ob _ _, ⟨_, _, h, _⟩ => ⟨_, h, trivial⟩
structure Rp (K : PySem.W.Frag) (η : List Addr) (H : Hp) (S : Store) : Prop where
  len : η.length = S.length
  nd : η.Nodup
  all : ∀ (l : Nat) (a : Addr) (o : SO), η[l]? = some a → S[l]? = some o → ORep K η H a o
  wf : ∀ (l : Nat) (o : SO), S[l]? = some o → WfO l o
section
variable {K : PySem.W.Frag} {η η' : List Addr} {H H' : Hp} {S S' : Store}
theorem Rp.there (r : Rp K η H S) {a : Addr} (m : a ∈ η) : ∃ u, H a = some u ∧ Mut (some u) := by
  obtain ⟨l, hl, e⟩ := List.getElem_of_mem m
  have hs : l < S.length := by rw [← r.len]; exact hl
  exact (r.all l a S[l] (by rw [List.getElem?_eq_getElem hl, e]) (List.getElem?_eq_getElem hs)).there
theorem Rp.addr (r : Rp K η H S) {l : Nat} {o : SO} (h : S[l]? = some o) : ∃ a, η[l]? = some a ∧ ORep K η H a o := by
  have hl : l < η.length := by rw [r.len]; exact (List.getElem?_eq_some_iff.mp h).1
  exact ⟨_, List.getElem?_eq_getElem hl, r.all _ _ _ (List.getElem?_eq_getElem hl) h⟩
/-- a new object that is not live -/
theorem fu_new {p : Addr} {o : HO} (hp : H p = none) : Fu η H η (upd H p o) :=
  ⟨⟨[], by simp⟩, fun a h => .inl h, fun a h => by
    by_cases e : a = p
    · subst e; exact hp
    · rw [upd_ne e] at h; exact h, fun a xs h => by rw [upd_ne (ne_of_none h hp)]; exact h, fun a o u h => by rw [upd_ne (ne_of_none h hp)]; exact h, fun a xs _ h => by rw [upd_ne (ne_of_none h hp)]; exact h⟩
theorem ORep.fw (f : Fw η H η' H') {a : Addr} (hk : ∀ u, H a = some u → H' a = some u) : ∀ {o : SO}, ORep K η H a o → ORep K η' H' a o
  | .lst _, ⟨vs, h, r⟩ => ⟨vs, hk _ h, RepDs.fw f r⟩
  | .dK _, ⟨vs, h, e, r⟩ => ⟨vs, hk _ h, e, RepDs.fw f r⟩
  | .dT _, ⟨vs, h, e, r⟩ => ⟨vs, hk _ h, e, RepDs.fw f r⟩
  | .ob _ _, ⟨dx, vs, h, e, r⟩ => ⟨dx, vs, hk _ h, e, RepWs.fw f r⟩
theorem ORep.fu (f : Fu η H η' H') {a : Addr} (hk : ∀ u, H a = some u → H' a = some u) {o : SO} (h : ORep K η H a o) : ORep K η' H' a o := ORep.fw f.w hk h
theorem Rp.new (r : Rp K η H S) {p : Addr} {o : HO} (hp : H p = none) : Rp K η (upd H p o) S :=
  ⟨r.len, r.nd, fun l a so h1 h2 => (r.all l a so h1 h2).fu (fu_new hp) fun u e => by rw [upd_ne (ne_of_none e hp)]; exact e, r.wf⟩
theorem Rp.notin (r : Rp K η H S) {p : Addr} (hp : H p = none) : p ∉ η := fun m => by
  obtain ⟨u, e, _⟩ := r.there m
  rw [hp] at e; cases e
/-- a new live object -/
theorem fu_live {p : Addr} {o : HO} (hp : H p = none) : Fu η H (η ++ [p]) (upd H p o) := by
  have f : Fu η H η (upd H p o) := fu_new hp
  refine ⟨⟨[p], rfl⟩, fun a h => ?_, f.tk, f.tp, f.fz, f.ls⟩
  rcases List.mem_append.mp h with h | h
  · exact .inl h
  · exact .inr (by rw [List.mem_singleton.mp h]; exact hp)
theorem Rp.live (r : Rp K η H S) {p : Addr} {o : HO} {so : SO} (hp : H p = none) (hn : ORep K (η ++ [p]) (upd H p o) p so) (hw : WfO S.length so := by exact True.intro) : Rp K (η ++ [p]) (upd H p o) (S ++ [so]) := by
  refine ⟨by rw [List.length_append, List.length_append, r.len]; rfl, ?_, fun l a so' h1 h2 => ?_, fun l so' h2 => ?_⟩
  · refine List.nodup_append.mpr ⟨r.nd, by simp, fun a ha b hb => ?_⟩
    rw [List.mem_singleton.mp hb]
    exact fun e => r.notin hp (e ▸ ha)
  · by_cases hl : l < S.length
    · rw [List.getElem?_append_left (by rw [r.len]; exact hl)] at h1
      rw [List.getElem?_append_left hl] at h2
      exact (r.all l a so' h1 h2).fu (fu_live hp) fun u e => by rw [upd_ne (ne_of_none e hp)]; exact e
    · have e : l = S.length := by
        have := (List.getElem?_eq_some_iff.mp h2).1
        rw [List.length_append] at this
        simp at this
        omega
      subst e
      rw [List.getElem?_append_right (by rw [r.len]; exact Nat.le_refl _), r.len] at h1
      rw [List.getElem?_append_right (Nat.le_refl _)] at h2
      simp at h1 h2
      subst h1 h2
      exact hn
  · by_cases hl : l < S.length
    · rw [List.getElem?_append_left hl] at h2
      exact r.wf l so' h2
    · have e : l = S.length := by
        have := (List.getElem?_eq_some_iff.mp h2).1
        rw [List.length_append] at this
        simp at this
        omega
      subst e
      rw [List.getElem?_append_right (Nat.le_refl _)] at h2
      simp at h2
      subst h2
      exact hw
/-- a live object is written -/
theorem fu_write {a : Addr} {u o : HO} (m : a ∈ η) (h : H a = some u) (mu : Mut (some u)) : Fu η H η (upd H a o) := by
  refine ⟨⟨[], by simp⟩, fun a h => .inl h, fun b q => ?_, fun b xs q => ?_, fun b ob v q => ?_, fun b xs n q => ?_⟩
  · by_cases e : b = a
    · subst e; rw [upd_same] at q; cases q
    · rw [upd_ne e] at q; exact q
  · rw [upd_ne]
    · exact q
    · rintro rfl; rw [h] at q; cases q; exact mu.elim
  · rw [upd_ne]
    · exact q
    · rintro rfl; rw [h] at q; cases q; exact mu.elim
  · rw [upd_ne]
    · exact q
    · rintro rfl; exact n m
theorem nodup_get {l l' : Nat} {a : Addr} (nd : η.Nodup) (h : η[l]? = some a) (h' : η[l']? = some a) : l = l' := by
  obtain ⟨h1, e1⟩ := List.getElem?_eq_some_iff.mp h
  obtain ⟨h2, e2⟩ := List.getElem?_eq_some_iff.mp h'
  exact (List.getElem_inj nd).mp (e1.trans e2.symm)
theorem Rp.write (r : Rp K η H S) {l : Nat} {a : Addr} {o : HO} {so : SO} (h : η[l]? = some a) (hn : ORep K η (upd H a o) a so) (hw : WfO l so := by exact True.intro) : Rp K η (upd H a o) (S.set l so) := by
  have m : a ∈ η := List.mem_of_getElem? h
  obtain ⟨u, hu, mu⟩ := r.there m
  have wf : ∀ (l' : Nat) (o : SO), (S.set l so)[l']? = some o → WfO l' o := fun l' o h2 => by
    by_cases e : l' = l
    · subst e
      have hl : l' < S.length := by
        have := (List.getElem?_eq_some_iff.mp h2).1
        rw [List.length_set] at this
        exact this
      rw [List.getElem?_set_self hl] at h2
      cases h2
      exact hw
    · rw [List.getElem?_set_ne (Ne.symm e)] at h2
      exact r.wf l' o h2
  refine ⟨by rw [List.length_set]; exact r.len, r.nd, fun l' b so' h1 h2 => ?_, wf⟩
  by_cases e : l' = l
  · subst e
    rw [h] at h1
    cases h1
    have hl : l' < S.length := by
      have := (List.getElem?_eq_some_iff.mp h2).1
      rw [List.length_set] at this
      exact this
    rw [List.getElem?_set_self hl] at h2
    cases h2
    exact hn
  · rw [List.getElem?_set_ne (Ne.symm e)] at h2
    refine (r.all l' b so' h1 h2).fu (fu_write m hu mu) fun v q => ?_
    rw [upd_ne]
    · exact q
    · rintro rfl; exact e (nodup_get r.nd h1 h)
end

/-! slots -/
def ERep (K : PySem.W.Frag) (η : List Addr) (H : Hp) (ρ : Rho) (σ : L2.St) : Prop :=
  σ.length = ρ.length ∧ ∀ (i : Nat) (w : W), ρ[i]? = some (some w) → ∃ v, σ[i]? = some (some v) ∧ RepW K η H w v
section
variable {K : PySem.W.Frag} {η η' : List Addr} {H H' : Hp} {S S' : Store} {ρ : Rho} {σ : L2.St}
theorem ERep.fw (f : Fw η H η' H') (e : ERep K η H ρ σ) : ERep K η' H' ρ σ := ⟨e.1, fun i w h => by
  obtain ⟨v, h1, h2⟩ := e.2 i w h
  exact ⟨v, h1, RepW.fw f h2⟩⟩
theorem ERep.fu (f : Fu η H η' H') (e : ERep K η H ρ σ) : ERep K η' H' ρ σ := ERep.fw f.w e
theorem ERep.set (e : ERep K η H ρ σ) {i : Nat} {w : W} {v : V} (r : RepW K η H w v) : ERep K η H (ρ.set i (some w)) (σ.set i (some v)) := by
  refine ⟨by rw [List.length_set, List.length_set]; exact e.1, fun j w' h => ?_⟩
  by_cases hj : j = i
  · subst hj
    have hl : j < ρ.length := by
      have := (List.getElem?_eq_some_iff.mp h).1
      rw [List.length_set] at this
      exact this
    rw [List.getElem?_set_self hl] at h
    cases h
    exact ⟨v, List.getElem?_set_self (by rw [e.1]; exact hl), r⟩
  · rw [List.getElem?_set_ne (Ne.symm hj)] at h
    rw [List.getElem?_set_ne (Ne.symm hj)]
    exact e.2 j w' h
end

/-! the ends -/
structure Gc where
  K : PySem.W.Frag
  ct : Nat → Option Addr
abbrev RepF (K : PySem.W.Frag) (η : List Addr) (H : Hp) (fs : List (Str × W)) (vs : List (Str × V)) : Prop :=
  fs.map (·.1) = vs.map (·.1) ∧ RepWs K η H (fs.map (·.2)) (vs.map (·.2))
def FinX (G : Gc) (E : XK) (η : List Addr) (H : Hp) (c : Nat) (fs : List (Str × W)) (S' : Store) : Prop :=
  ∀ η' H' C d vs, Fu η H η' H' → Rp G.K η' H' S' → G.ct c = some C → H' d = some (.xd vs) → RepF G.K η' H' fs vs → E (.ref C) (some d) H'
def FinR {α β : Type} (G : Gc) (rel : α → List Addr → Hp → β → Prop) (E : XK) (η : List Addr) (H : Hp) (r : R α) (Q : β → Hp → Prop) : Prop :=
  match r with
  | .ok a S' => ∀ η' H' v, Fu η H η' H' → Rp G.K η' H' S' → rel a η' H' v → Q v H'
  | .exc c fs S' => FinX G E η H c fs S'
  | .bad => False
abbrev relW (G : Gc) : W → List Addr → Hp → V → Prop := fun w η H v => RepW G.K η H w v
abbrev relB : Bool → List Addr → Hp → Bool → Prop := fun b _ _ v => v = b
abbrev relL (G : Gc) : List W → List Addr → Hp → List V → Prop := fun w η H v => RepWs G.K η H w v
abbrev FinP (G : Gc) (E : XK) (η : List Addr) (H : Hp) (r : R W) (Q : VK) : Prop := FinR G (relW G) E η H r Q
abbrev FinB (G : Gc) (E : XK) (η : List Addr) (H : Hp) (r : R Bool) (Q : Bool → Hp → Prop) : Prop := FinR G relB E η H r Q
abbrev FinL (G : Gc) (E : XK) (η : List Addr) (H : Hp) (r : R (List W)) (Q : List V → Hp → Prop) : Prop := FinR G (relL G) E η H r Q
def FinO (G : Gc) (η : List Addr) (H : Hp) (r : O) (Q : VK) : Prop :=
  match r with
  | some (w, S') => ∀ η' H' v, Fu η H η' H' → Rp G.K η' H' S' → RepW G.K η' H' w v → Q v H'
  | none => False
inductive RF where
  | next (ρ : Rho) (S : Store)
  | ret (w : W) (S : Store)
  | brk (ρ : Rho) (S : Store)
  | cnt (ρ : Rho) (S : Store)
  | exc (c : Nat) (fs : List (Str × W)) (ρ : Rho) (S : Store)
  | bad
def FinS (G : Gc) (E : L2.St → XK) (η : List Addr) (H : Hp) (r : RF) (D : Ends) : Prop :=
  match r with
  | .next ρ S' => ∀ η' H' σ, Fu η H η' H' → Rp G.K η' H' S' → ERep G.K η' H' ρ σ → D.nx σ H'
  | .ret w S' => ∀ η' H' v, Fu η H η' H' → Rp G.K η' H' S' → RepW G.K η' H' w v → D.rt v H'
  | .brk ρ S' => ∀ η' H' σ, Fu η H η' H' → Rp G.K η' H' S' → ERep G.K η' H' ρ σ → D.bk σ H'
  | .cnt ρ S' => ∀ η' H' σ, Fu η H η' H' → Rp G.K η' H' S' → ERep G.K η' H' ρ σ → D.ct σ H'
  | .exc c fs ρ S' => ∀ η' H' σ C d vs, Fu η H η' H' → Rp G.K η' H' S' → ERep G.K η' H' ρ σ → G.ct c = some C → H' d = some (.xd vs) → RepF G.K η' H' fs vs → E σ (.ref C) (some d) H'
  | .bad => False
abbrev FE := Rho → Store → R W
abbrev FT := Rho → Store → R Bool
abbrev FA := Rho → Store → R (List W)
abbrev FS := Rho → Store → RF
abbrev EX := L2.St → XK
def tF (G : Gc) (E : EX) (f : FE) : TE := fun σ H Q => ∃ η ρ S, Rp G.K η H S ∧ ERep G.K η H ρ σ ∧ FinP G (E σ) η H (f ρ S) Q
def tT (G : Gc) (E : EX) (f : FT) : TT := fun σ H Q => ∃ η ρ S, Rp G.K η H S ∧ ERep G.K η H ρ σ ∧ FinB G (E σ) η H (f ρ S) Q
def tA (G : Gc) (E : EX) (f : FA) : TA := fun σ H Q => ∃ η ρ S, Rp G.K η H S ∧ ERep G.K η H ρ σ ∧ FinL G (E σ) η H (f ρ S) Q
def tS (G : Gc) (E : EX) (f : FS) : TS := fun D σ H => ∃ η ρ S, Rp G.K η H S ∧ ERep G.K η H ρ σ ∧ FinS G E η H (f ρ S) D
theorem PEw {X : Cx} {e : Expr} {t t' : TE} (h : PE X e t) (i : ∀ σ H Q, t' σ H Q → t σ H Q) : PE X e t' := ⟨fun pins s σ H Q I q => h.run pins s σ H Q I (i σ H Q q)⟩
theorem PTw {X : Cx} {e : Expr} {t t' : TT} (h : PT X e t) (i : ∀ σ H Q, t' σ H Q → t σ H Q) : PT X e t' := ⟨fun pins s σ H Q I q => h.run pins s σ H Q I (i σ H Q q)⟩
theorem PWw {X : Cx} {e : Expr} {t t' : TT} (h : PW X e t) (i : ∀ σ H Q, t' σ H Q → t σ H Q) : PW X e t' := ⟨fun wh pins s σ H Q I q => h.run wh pins s σ H Q I (i σ H Q q)⟩
theorem PAw {X : Cx} {e : List Expr} {t t' : TA} (h : PA X e t) (i : ∀ σ H Q, t' σ H Q → t σ H Q) : PA X e t' := ⟨fun p pins s σ H Q I q => h.run p pins s σ H Q I (i σ H Q q)⟩
theorem PSw {X : Cx} {e : Stmt} {t t' : TS} (h : PS X e t) (i : ∀ D σ H, t' D σ H → t D σ H) : PS X e t' := ⟨fun pins s σ H Q I q => h.run pins s σ H Q I (i Q σ H q)⟩
theorem PSsw {X : Cx} {e : List Stmt} {t t' : TS} (h : PSs X e t) (i : ∀ D σ H, t' D σ H → t D σ H) : PSs X e t' := ⟨fun pins s σ H Q I q => h.run pins s σ H Q I (i Q σ H q)⟩
section
variable {G : Gc} {E : XK} {η : List Addr} {H : Hp}
theorem FinX.fu {c : Nat} {fs : List (Str × W)} {S' : Store} {η' : List Addr} {H' : Hp} (f : Fu η H η' H') (h : FinX G E η H c fs S') : FinX G E η' H' c fs S' :=
  fun η2 H2 C d vs g => h η2 H2 C d vs (f.trans g)
theorem FinR.fu {α β : Type} {rel : α → List Addr → Hp → β → Prop} {r : R α} {Q : β → Hp → Prop} {η' : List Addr} {H' : Hp} (f : Fu η H η' H') (h : FinR G rel E η H r Q) : FinR G rel E η' H' r Q := by
  cases r with
  | ok w2 S2 => exact fun η2 H2 v2 g => h η2 H2 v2 (f.trans g)
  | exc c fs S2 => exact FinX.fu f h
  | bad => exact h
theorem FinR.bind {α β γ δ : Type} {rel : α → List Addr → Hp → β → Prop} {rel2 : γ → List Addr → Hp → δ → Prop} {r : R α} {k : α → Store → R γ} {Q : δ → Hp → Prop} (h : FinR G rel2 E η H (r.bind k) Q) :
    FinR G rel E η H r fun v H1 => ∃ η1 w S1, Fu η H η1 H1 ∧ Rp G.K η1 H1 S1 ∧ rel w η1 H1 v ∧ FinR G rel2 E η1 H1 (k w S1) Q := by
  cases r with
  | ok w S' => exact fun η' H' v f rp rw_ => ⟨η', w, S', f, rp, rw_, FinR.fu f (show FinR G rel2 E η H (k w S') Q from h)⟩
  | exc c fs S' => exact h
  | bad => exact h
theorem FinR.mono {α β : Type} {rel : α → List Addr → Hp → β → Prop} {r : R α} {Q Q' : β → Hp → Prop} (h : FinR G rel E η H r Q) (i : ∀ v H', Q v H' → Q' v H') : FinR G rel E η H r Q' := by
  cases r with
  | ok w S' => exact fun η' H' v f a b => i v H' (h η' H' v f a b)
  | exc c fs S' => exact h
  | bad => exact h
theorem FinO.fu {r : O} {Q : VK} {η' : List Addr} {H' : Hp} (f : Fu η H η' H') (h : FinO G η H r Q) : FinO G η' H' r Q := by
  cases r with
  | some p => exact fun η2 H2 v2 g => h η2 H2 v2 (f.trans g)
  | none => exact h
theorem FinO.mono {r : O} {Q Q' : VK} (h : FinO G η H r Q) (i : ∀ v H', Q v H' → Q' v H') : FinO G η H r Q' := by
  cases r with
  | some p => exact fun η' H' v f a b => i v H' (h η' H' v f a b)
  | none => exact h
theorem FinS.fu {E : EX} {r : RF} {D : Ends} {η' : List Addr} {H' : Hp} (f : Fu η H η' H') (h : FinS G E η H r D) : FinS G E η' H' r D := by
  cases r with
  | next => exact fun η2 H2 v2 g => h η2 H2 v2 (f.trans g)
  | ret => exact fun η2 H2 v2 g => h η2 H2 v2 (f.trans g)
  | brk => exact fun η2 H2 v2 g => h η2 H2 v2 (f.trans g)
  | cnt => exact fun η2 H2 v2 g => h η2 H2 v2 (f.trans g)
  | exc => exact fun η2 H2 σ C d vs g => h η2 H2 σ C d vs (f.trans g)
  | bad => exact h
/-- an expression ahead of what is done with it -/
def toS {α : Type} (ρ : Rho) (r : R α) (k : α → Store → RF) : RF :=
  match r with
  | .ok a S => k a S
  | .exc c fs S => .exc c fs ρ S
  | .bad => .bad
theorem FinS.bind {α β : Type} {E : EX} {rel : α → List Addr → Hp → β → Prop} {r : R α} {ρ : Rho} {σ : L2.St} {k : α → Store → RF} {D : Ends} (er : ERep G.K η H ρ σ) (h : FinS G E η H (toS ρ r k) D) :
    FinR G rel (E σ) η H r fun v H1 => ∃ η1 w S1, Fu η H η1 H1 ∧ Rp G.K η1 H1 S1 ∧ rel w η1 H1 v ∧ FinS G E η1 H1 (k w S1) D := by
  cases r with
  | ok w S' => exact fun η' H' v f rp rw_ => ⟨η', w, S', f, rp, rw_, FinS.fu f (show FinS G E η H (k w S') D from h)⟩
  | exc c fs S' => exact fun η' H' C d vs f rp hc hd hf => h η' H' σ C d vs f rp (er.fu f) hc hd hf
  | bad => exact h
theorem FinP.lift {o : O} {Q : VK} (h : FinP G E η H (lift o) Q) : FinO G η H o Q := by
  cases o with
  | none => exact h
  | some p => exact h
end
end VI
set_option Elab.async false
set_option linter.all false
set_option maxRecDepth 100000
namespace VI
open PySem PySem.Spec PyProof.Rows L2
abbrev lim : Nat := 16777216
theorem lim_ok {n : Nat} (h : n ≤ lim) : n ≤ sizeLine := by rw [sizeLine_eq]; exact h
abbrev gx (X : Cx) (ct : Nat → Option Addr) : Gc := ⟨X.K, ct⟩

/-! new objects -/
section
variable {K : PySem.W.Frag} {ct : Nat → Option Addr} {η : List Addr} {H : Hp} {S : Store} {Q : VK}
theorem new_list {ds : List PyData} {vs : List V} (rp : Rp K η H S) (r : RepDs K η H ds vs) (h : FinO ⟨K, ct⟩ η H (some (.d (.list ds), S)) Q) : ∀ p, H p = none → Q (.ref p) (upd H p (.lst vs)) := fun p hp =>
  h η _ _ (fu_new hp) (rp.new hp) (.d (.list upd_same (rp.notin hp) (RepDs.fu (fu_new hp) _ _ r)))
theorem new_tup {ds : List PyData} {vs : List V} (rp : Rp K η H S) (r : RepDs K η H ds vs) (h : FinO ⟨K, ct⟩ η H (some (.d (.tuple ds), S)) Q) : ∀ p, H p = none → Q (.ref p) (upd H p (.tup vs)) := fun p hp =>
  h η _ _ (fu_new hp) (rp.new hp) (.d (.tuple (SqT.of upd_same) (RepDs.fu (fu_new hp) _ _ r)))
theorem new_tp {ws : List W} {vs : List V} (rp : Rp K η H S) (r : RepWs K η H ws vs) (h : FinO ⟨K, ct⟩ η H (some (.tp ws, S)) Q) : ∀ p, H p = none → Q (.ref p) (upd H p (.tup vs)) := fun p hp =>
  h η _ _ (fu_new hp) (rp.new hp) (.tp (SqT.of upd_same) (RepWs.fu (fu_new hp) _ _ r))
theorem new_live {ws : List PyData} {vs : List V} (rp : Rp K η H S) (r : RepDs K η H ws vs) (h : FinO ⟨K, ct⟩ η H (some (.loc S.length, S ++ [.lst ws])) Q) : ∀ p, H p = none → Q (.ref p) (upd H p (.lst vs)) := fun p hp =>
  h (η ++ [p]) _ _ (fu_live hp) (rp.live hp ⟨vs, upd_same, RepDs.fu (fu_live hp) _ _ r⟩) (.loc (by rw [← rp.len]; simp))
theorem same_val {w : W} {v : V} (rp : Rp K η H S) (r : RepW K η H w v) (h : FinO ⟨K, ct⟩ η H (some (w, S)) Q) : Q v H := h η H v (Fu.refl _ _) rp r
/-- a live list is written -/
theorem write_list {l : Nat} {a : Addr} {ws : List PyData} {vs : List V} {w : W} {v : V} (rp : Rp K η H S) (ha : η[l]? = some a) (r : RepDs K η H ws vs) (rw_ : RepW K η H w v) (h : FinO ⟨K, ct⟩ η H (some (w, S.set l (.lst ws))) Q) :
    Q v (upd H a (.lst vs)) := by
  have m : a ∈ η := List.mem_of_getElem? ha
  obtain ⟨u, hu, mu⟩ := rp.there m
  have f : Fu η H η (upd H a (.lst vs)) := fu_write m hu mu
  exact h η _ v f (rp.write ha ⟨vs, upd_same, RepDs.fu f _ _ r⟩) (RepW.fu f _ _ rw_)
end

/-! views -/
def asL (w : W) (S : Store) : Option (List PyData) :=
  match w with
  | .d (.list xs) => some xs
  | .loc l => match S[l]? with
    | some (.lst xs) => some xs
    | _ => none
  | _ => none
def asLW (w : W) (S : Store) : Option (List W) :=
  match w with
  | .d (.list xs) => some (xs.map W.d)
  | .loc l => match S[l]? with
    | some (.lst ws) => some (ws.map W.d)
    | _ => none
  | .fro xs => some (xs.map W.d)
  | _ => none
def asTW (w : W) : Option (List W) :=
  match w with
  | .d (.tuple xs) => some (xs.map W.d)
  | .tp ws => some ws
  | _ => none
def mkT (ws : List W) : W :=
  match datas ws with
  | some ds => .d (.tuple ds)
  | none => .tp ws
section
variable {K : PySem.W.Frag} {ct : Nat → Option Addr} {η : List Addr} {H : Hp} {S : Store} {Q : VK} {w : W} {v : V}
theorem asL_ok {xs : List PyData} (e : asL w S = some xs) (rp : Rp K η H S) (r : RepW K η H w v) : ∃ a vs, v = .ref a ∧ H a = some (.lst vs) ∧ RepDs K η H xs vs := by
  cases w with
  | d x =>
    cases r with
    | d r =>
      cases x <;> cases e
      cases r with
      | list h1 h2 h3 => exact ⟨_, _, rfl, h1, h3⟩
  | loc l =>
    cases r with
    | loc r =>
      cases q : S[l]? with
      | none => simp only [asL, q] at e; cases e
      | some o =>
        cases o with
        | lst ws =>
          simp only [asL, q] at e
          cases e
          obtain ⟨vs, h1, h2⟩ := rp.all _ _ _ r q
          exact ⟨_, vs, rfl, h1, h2⟩
        | dK _ => simp only [asL, q] at e; cases e
        | dT _ => simp only [asL, q] at e; cases e
        | ob _ _ => simp only [asL, q] at e; cases e
  | tp _ => cases e
  | fro _ => cases e
theorem asLW_ok {xs : List W} (e : asLW w S = some xs) (rp : Rp K η H S) (r : RepW K η H w v) : ∃ a vs, v = .ref a ∧ SqL K H a vs ∧ RepWs K η H xs vs := by
  cases w with
  | d x =>
    cases r with
    | d r =>
      cases x <;> cases e
      cases r with
      | list h1 h2 h3 => exact ⟨_, _, rfl, SqL.of h1, RepWs.ofD h3⟩
  | loc l =>
    cases r with
    | loc r =>
      cases q : S[l]? with
      | none => simp only [asLW, q] at e; cases e
      | some o =>
        cases o with
        | lst ws =>
          simp only [asLW, q] at e
          cases e
          obtain ⟨vs, h1, h2⟩ := rp.all _ _ _ r q
          exact ⟨_, vs, rfl, SqL.of h1, RepWs.ofD h2⟩
        | dK _ => simp only [asLW, q] at e; cases e
        | dT _ => simp only [asLW, q] at e; cases e
        | ob _ _ => simp only [asLW, q] at e; cases e
  | tp _ => cases e
  | fro _ =>
    cases e
    cases r with
    | fro h1 h2 => exact ⟨_, _, rfl, h1.seq, RepWs.ofD h2⟩
theorem asTW_ok {xs : List W} (e : asTW w = some xs) (r : RepW K η H w v) : ∃ a vs, v = .ref a ∧ SqT K H a vs ∧ RepWs K η H xs vs := by
  cases w with
  | d x =>
    cases r with
    | d r =>
      cases x <;> cases e
      cases r with
      | tuple h1 h2 => exact ⟨_, _, rfl, h1, RepWs.ofD h2⟩
  | loc _ => cases e
  | tp _ =>
    cases e
    cases r with
    | tp h1 h2 => exact ⟨_, _, rfl, h1, h2⟩
  | fro _ => cases e
theorem new_mkT {ws : List W} {vs : List V} (rp : Rp K η H S) (r : RepWs K η H ws vs) (h : FinO ⟨K, ct⟩ η H (some (mkT ws, S)) Q) : ∀ p, H p = none → Q (.ref p) (upd H p (.tup vs)) := by
  unfold mkT at h
  cases q : datas ws with
  | some ds => rw [q] at h; exact new_tup rp (datas_ok q r) h
  | none => rw [q] at h; exact new_tp rp r h
/-- the same tuple, seen anew -/
theorem same_mkT {ws : List W} {vs : List V} {a : Addr} (rp : Rp K η H S) (ha : SqT K H a vs) (r : RepWs K η H ws vs) (h : FinO ⟨K, ct⟩ η H (some (mkT ws, S)) Q) : Q (.ref a) H := by
  unfold mkT at h
  cases q : datas ws with
  | some ds => rw [q] at h; exact same_val rp (.d (.tuple ha (datas_ok q r))) h
  | none => rw [q] at h; exact same_val rp (.tp ha r) h
end

/-! names, constants -/
def fVar (i : Nat) : FE := fun ρ S => match ρ[i]? with
  | some (some w) => .ok w S
  | _ => .bad
def fC (w : PyData) : FE := fun _ S => .ok (.d w) S
section
variable {X : Cx} {ct : Nat → Option Addr} {E : EX}
theorem i_of {e : Expr} {i : Nat} (h : PE X e (tVar i)) : PE X e (tF (gx X ct) E (fVar i)) := PEw h fun σ H Q ⟨η, ρ, S, rp, er, h⟩ => by
  cases q : ρ[i]? with
  | none => simp only [fVar, q] at h; exact h.elim
  | some o =>
    cases o with
    | none => simp only [fVar, q] at h; exact h.elim
    | some w =>
      simp only [fVar, q] at h
      obtain ⟨v, e1, r⟩ := er.2 i w q
      exact ⟨v, e1, h η H v (Fu.refl _ _) rp r⟩
theorem iv (i : Nat) {x : Str} {pos : Pos} (hN : X.N[i]? = some x := by rfl) (hv : Vis X.env.scope x := by first | exact Or.inl rfl | exact Or.inr (Or.inl rfl) | exact Or.inr (Or.inr rfl)) (hd : (x == ("__debug__" : Str)) = false := by decide)
    (hcd : (x == ("__classdict__" : Str)) = false := by decide) : PE X (.Name x pos) (tF (gx X ct) E (fVar i)) := i_of (pe_var hN hv hd hcd)
theorem i_const {e : Expr} {w : PyData} {v : V} (h : PE X e (tC v)) (r : ∀ η H, RepD X.K η H w v) : PE X e (tF (gx X ct) E (fC w)) := PEw h fun σ H Q ⟨η, ρ, S, rp, er, h⟩ => h η H v (Fu.refl _ _) rp (.d (r η H))
theorem ii {i : Int} {j : Nat} {pos : Pos} : PE X (.Constant (.int i) j pos) (tF (gx X ct) E (fC (.int i))) := i_const pe_int fun _ _ => .int _
theorem ib {b : Bool} {j : Nat} {pos : Pos} : PE X (.Constant (.bool b) j pos) (tF (gx X ct) E (fC (.bool b))) := i_const pe_bl fun _ _ => .bool _
theorem inn {j : Nat} {pos : Pos} : PE X (.Constant .none j pos) (tF (gx X ct) E (fC .none)) := i_const pe_non fun _ _ => .none
theorem is {x : Str} {j : Nat} {pos : Pos} : PE X (.Constant (.str x) j pos) (tF (gx X ct) E (fC (.str x))) := i_const pe_str fun _ _ => .str _
/-- a constant of the module -/
theorem ig {x : Str} {v : V} {u : Value} {w : PyData} {pos : Pos} (hg : Gl X x) (hm : X.mg x = some u) (r : RelV v u) (rd : ∀ η H, RepD X.K η H w v) (hd : (x == ("__debug__" : Str)) = false := by decide) : PE X (.Name x pos) (tF (gx X ct) E (fC w)) := i_const (pe_glob hg hm r hd) rd

/-! one and two values -/
def f1 (g : W → Store → O) (a : FE) : FE := fun ρ S => (a ρ S).bind fun x S1 => lift (g x S1)
def f2 (g : W → W → Store → O) (a b : FE) : FE := fun ρ S => (a ρ S).bind fun x S1 => (b ρ S1).bind fun y S2 => lift (g x y S2)
theorem lift_ok {G : Gc} {Z : XK} {η : List Addr} {H : Hp} {o : O} {Q : VK} (h : FinP G Z η H (lift o) Q) : FinO G η H o Q := by
  cases o with
  | none => exact h
  | some p => exact h
def Sim1 (X : Cx) (ct : Nat → Option Addr) (g : W → Store → O) : V → Hp → VK → Prop := fun x H Q => ∃ η S wx, Rp X.K η H S ∧ RepW X.K η H wx x ∧ FinO (gx X ct) η H (g wx S) Q
def Sim2 (X : Cx) (ct : Nat → Option Addr) (g : W → W → Store → O) : R2 := fun x y H Q => ∃ η S wx wy, Rp X.K η H S ∧ RepW X.K η H wx x ∧ RepW X.K η H wy y ∧ FinO (gx X ct) η H (g wx wy S) Q
theorem get1 {a : FE} {g : W → Store → O} {r : V → Hp → VK → Prop} (hr : ∀ x H Q, Sim1 X ct g x H Q → r x H Q) : ∀ σ H Q, tF (gx X ct) E (f1 g a) σ H Q → tF (gx X ct) E a σ H fun x H1 => r x H1 Q := fun σ H Q ⟨η, ρ, S, rp, er, h⟩ =>
  ⟨η, ρ, S, rp, er, FinR.mono (FinR.bind h) fun v H1 ⟨η1, w, S1, f, rp1, r1, h1⟩ => hr _ _ _ ⟨η1, S1, w, rp1, r1, lift_ok h1⟩⟩
theorem get2 {a b : FE} {g : W → W → Store → O} {r : R2} (hr : ∀ x y H Q, Sim2 X ct g x y H Q → r x y H Q) : ∀ σ H Q, tF (gx X ct) E (f2 g a b) σ H Q → tOp r (tF (gx X ct) E a) (tF (gx X ct) E b) σ H Q := fun σ H Q ⟨η, ρ, S, rp, er, h⟩ =>
  ⟨η, ρ, S, rp, er, FinR.mono (FinR.bind h) fun v H1 ⟨η1, w, S1, f, rp1, r1, h1⟩ =>
    ⟨η1, ρ, S1, rp1, er.fu f, FinR.mono (FinR.bind h1) fun v2 H2 ⟨η2, w2, S2, f2, rp2, r2, h2⟩ => hr _ _ _ _ ⟨η2, S2, w, w2, rp2, RepW.fu f2 _ _ r1, r2, lift_ok h2⟩⟩⟩
theorem i_op {op : Operator} {g : W → W → Store → O} {a b : Expr} {fa fb : FE} {pos : Pos} (ho : OpR X (binaryOp op) (Sim2 X ct g)) (ha : PE X a (tF (gx X ct) E fa)) (hb : PE X b (tF (gx X ct) E fb)) : PE X (.BinOp a op b pos) (tF (gx X ct) E (f2 g fa fb)) :=
  PEw (pe_op ho ha hb) (get2 fun _ _ _ _ h => h)
theorem i_cmp {op : CmpOp} {g : W → W → Store → O} {a b : Expr} {fa fb : FE} {pos : Pos} (ho : OpR X (compareOp op) (Sim2 X ct g)) (ha : PE X a (tF (gx X ct) E fa)) (hb : PE X b (tF (gx X ct) E fb)) (hm : behindInMarks op b = false) :
    PE X (.Compare a [op] [b] pos) (tF (gx X ct) E (f2 g fa fb)) := PEw (pe_cmpR ho ha hb hm) (get2 fun _ _ _ _ h => h)
/-- a rule of the layer that the reading fits -/
theorem OpR.fit {f : Value → Value → Sem Value} {r r' : R2} (h : OpR X f r) (i : ∀ x y H Q, r' x y H Q → r x y H Q) : OpR X f r' := fun pins s σ H x y v u Q I rx ry q => h pins s σ H x y v u Q I rx ry (i _ _ _ _ q)

/-! + -/
def gAdd (a b : W) (S : Store) : O :=
  match a, b with
  | .d (.int i), .d (.int j) => some (.d (.int (i + j)), S)
  | .d (.str x), .d (.str y) => if x.length + y.length ≤ lim then some (.d (.str (x ++ y)), S) else none
  | a, b => match asL a S, asL b S with
    | some xs, some ys => if xs.length + ys.length ≤ lim then some (.d (.list (xs ++ ys)), S) else none
    | _, _ => match asTW a, asTW b with
      | some xs, some ys => if xs.length + ys.length ≤ lim then some (mkT (xs ++ ys), S) else none
      | _, _ => none
def gAddInt (a b : W) (S : Store) : O := match a, b with
  | .d (.int i), .d (.int j) => some (.d (.int (i + j)), S)
  | _, _ => none
def gAddStr (a b : W) (S : Store) : O := match a, b with
  | .d (.str x), .d (.str y) => if x.length + y.length ≤ lim then some (.d (.str (x ++ y)), S) else none
  | _, _ => none
def gCat (a b : W) (S : Store) : O := match asL a S, asL b S with
  | some xs, some ys => if xs.length + ys.length ≤ lim then some (.d (.list (xs ++ ys)), S) else none
  | _, _ => none
def gCatT (a b : W) (S : Store) : O := match asTW a, asTW b with
  | some xs, some ys => if xs.length + ys.length ≤ lim then some (mkT (xs ++ ys), S) else none
  | _, _ => none
/-- two ints -/
theorem int2 {g : Int → Int → Option V} {gg : W → W → Store → O} : True := trivial
def gI2 (C : Int → Int → Bool) (g : Int → Int → PyData) (a b : W) (S : Store) : O := match a, b with
  | .d (.int i), .d (.int j) => if C i j = true then some (.d (g i j), S) else none
  | _, _ => none
theorem sim_i2 {f : Value → Value → Sem Value} {C : Int → Int → Bool} {C' : Int → Int → Prop} {g : Int → Int → PyData} {g' : Int → Int → V} (ho : OpR X f (rI C' g')) (hC : ∀ i j, C i j = true → C' i j) (hg : ∀ i j η H, RepD X.K η H (g i j) (g' i j)) : OpR X f (Sim2 X ct (gI2 C g)) :=
  OpR.fit ho fun x y H Q ⟨η, S, wx, wy, rp, rx, ry, h⟩ => by
    cases wx with
    | d x =>
      cases x with
      | int i =>
        cases wy with
        | d y =>
          cases y with
          | int j =>
            cases rx with
            | d rx =>
              cases ry with
              | d ry =>
                cases rx
                cases ry
                simp only [gI2] at h
                split at h
                · exact ⟨i, j, rfl, rfl, hC _ _ (by assumption), same_val rp (.d (hg _ _ _ _)) h⟩
                · exact h.elim
          | _ => exact h.elim
        | _ => exact h.elim
      | _ => exact h.elim
    | _ => exact h.elim
theorem rI0_rI {g : Int → Int → V} {x y : V} {H : Hp} {Q : VK} (h : rI (fun _ _ => True) g x y H Q) : rI0 g x y H Q := by
  obtain ⟨i, j, e1, e2, _, q⟩ := h
  exact ⟨i, j, e1, e2, q⟩
theorem sim_i20 {f : Value → Value → Sem Value} {g : Int → Int → PyData} {g' : Int → Int → V} (ho : OpR X f (rI0 g')) (hg : ∀ i j η H, RepD X.K η H (g i j) (g' i j)) : OpR X f (Sim2 X ct (gI2 (fun _ _ => true) g)) :=
  sim_i2 (C' := fun _ _ => True) (OpR.fit ho fun _ _ _ _ => rI0_rI) (fun _ _ _ => trivial) hg
end
end VI
set_option Elab.async false
set_option linter.all false
set_option maxRecDepth 100000
namespace VI
open PySem PySem.Spec PyProof.Rows L2
section
variable {X : Cx} {ct : Nat → Option Addr} {E : EX}

/-! + of all sorts -/
theorem sim_addStr : OpR X (binaryOp .Add) (Sim2 X ct gAddStr) := OpR.fit op_add_str fun x y H Q ⟨η, S, wx, wy, rp, rx, ry, h⟩ => by
  unfold gAddStr at h
  split at h
  · cases rx with
    | d rx =>
      cases ry with
      | d ry =>
        cases rx
        cases ry
        split at h
        · exact ⟨_, _, rfl, rfl, lim_ok (by assumption), same_val rp (.d (.str _)) h⟩
        · exact h.elim
  · exact h.elim
theorem sim_cat : OpR X (binaryOp .Add) (Sim2 X ct gCat) := OpR.fit op_cat fun x y H Q ⟨η, S, wx, wy, rp, rx, ry, h⟩ => by
  unfold gCat at h
  split at h
  · rename_i xs ys e1 e2
    obtain ⟨a, vs, rfl, h1, r1⟩ := asL_ok e1 rp rx
    obtain ⟨b, us, rfl, h2, r2⟩ := asL_ok e2 rp ry
    split at h
    · rename_i hz
      exact ⟨a, b, vs, us, rfl, rfl, h1, h2, lim_ok (by rw [← r1.length, ← r2.length]; exact hz), new_list rp (r1.append r2) h⟩
    · exact h.elim
  · exact h.elim
theorem repWs_nil_iff {K : PySem.W.Frag} {η : List Addr} {H : Hp} {ws : List W} {vs : List V} (r : RepWs K η H ws vs) : vs = [] ↔ ws = [] := by
  cases r <;> simp
theorem sim_catT : OpR X (binaryOp .Add) (Sim2 X ct gCatT) := OpR.fit op_catA fun x y H Q ⟨η, S, wx, wy, rp, rx, ry, h⟩ => by
  unfold gCatT at h
  split at h
  · rename_i xs ys e1 e2
    obtain ⟨a, vs, rfl, h1, r1⟩ := asTW_ok e1 rx
    obtain ⟨b, us, rfl, h2, r2⟩ := asTW_ok e2 ry
    split at h
    · rename_i hz
      refine ⟨a, b, vs, us, rfl, rfl, h1, h2, lim_ok (by rw [← r1.length, ← r2.length]; exact hz), fun e => ?_, fun _ e => ?_, fun _ _ => new_mkT rp (r1.append r2) h⟩
      · obtain rfl := (repWs_nil_iff r1).mp e
        exact same_mkT rp h2 r2 h
      · obtain rfl := (repWs_nil_iff r2).mp e
        rw [List.append_nil] at h
        exact same_mkT rp h1 r1 h
    · exact h.elim
  · exact h.elim
/-- by cases: where the first has a word, it holds -/
theorem OpR.orElse {f : Value → Value → Sem Value} {g g' : W → W → Store → O} (h : OpR X f (Sim2 X ct g)) (h' : OpR X f (Sim2 X ct g')) : OpR X f (Sim2 X ct fun a b S => match g a b S with
  | some o => some o
  | none => g' a b S) := by
  intro pins s σ H x y v u Q I rx ry ⟨η, S, wx, wy, rp, r1, r2, q⟩
  cases e : g wx wy S with
  | some o => simp only [e] at q; exact h pins s σ H x y v u Q I rx ry ⟨η, S, wx, wy, rp, r1, r2, by rw [e]; exact q⟩
  | none => simp only [e] at q; exact h' pins s σ H x y v u Q I rx ry ⟨η, S, wx, wy, rp, r1, r2, q⟩
theorem OpR.ext {f : Value → Value → Sem Value} {g g' : W → W → Store → O} (h : OpR X f (Sim2 X ct g)) (e : ∀ a b S, g' a b S = none ∨ g' a b S = g a b S) : OpR X f (Sim2 X ct g') := OpR.fit h fun x y H Q ⟨η, S, wx, wy, rp, r1, r2, q⟩ => by
  rcases e wx wy S with z | z
  · rw [z] at q; exact q.elim
  · exact ⟨η, S, wx, wy, rp, r1, r2, by rw [← z]; exact q⟩
theorem sim_addI : OpR X (binaryOp .Add) (Sim2 X ct (gI2 (fun _ _ => true) fun i j => .int (i + j))) := sim_i20 op_add fun _ _ _ _ => .int _
theorem sim_add : OpR X (binaryOp .Add) (Sim2 X ct gAdd) := OpR.ext (OpR.orElse sim_addI (OpR.orElse sim_addStr (OpR.orElse sim_cat sim_catT))) fun a b S => by
  by_cases h1 : ∃ i j, a = .d (.int i) ∧ b = .d (.int j)
  · obtain ⟨i, j, rfl, rfl⟩ := h1
    exact .inr rfl
  by_cases h2 : ∃ x y, a = .d (.str x) ∧ b = .d (.str y)
  · obtain ⟨x, y, rfl, rfl⟩ := h2
    simp only [gAdd, gI2, gAddStr, gCat, gCatT, asL, asTW]
    split
    · exact .inr rfl
    · exact .inl rfl
  have e1 : gI2 (fun _ _ => true) (fun i j => PyData.int (i + j)) a b S = none := by
    unfold gI2
    split
    · exact absurd ⟨_, _, rfl, rfl⟩ h1
    · rfl
  have e2 : gAddStr a b S = none := by
    unfold gAddStr
    split
    · exact absurd ⟨_, _, rfl, rfl⟩ h2
    · rfl
  rw [e1, e2]
  dsimp only
  unfold gAdd gCat gCatT
  split
  · exact absurd ⟨_, _, rfl, rfl⟩ h1
  · exact absurd ⟨_, _, rfl, rfl⟩ h2
  · split
    · rename_i xs ys e3 e4
      split
      · simp
      · exact .inl rfl
    · simp
abbrev gSub := gI2 (fun _ _ => true) fun i j => .int (i - j)
theorem sim_sub : OpR X (binaryOp .Sub) (Sim2 X ct gSub) := sim_i20 op_sub fun _ _ _ _ => .int _
abbrev gMul := gI2 (fun i j => decide (i.natAbs.log2 + j.natAbs.log2 < 1000000)) fun i j => .int (i * j)
theorem sim_mul : OpR X (binaryOp .Mult) (Sim2 X ct gMul) := sim_i2 op_mulW (fun i j h => show i.natAbs.log2 + j.natAbs.log2 < 1000000 from of_decide_eq_true h) fun _ _ _ _ => .int _
abbrev gMod := gI2 (fun _ j => decide (0 < j)) fun i j => .int (i % j)
theorem sim_mod : OpR X (binaryOp .Mod) (Sim2 X ct gMod) := sim_i2 op_mod (fun _ _ h => of_decide_eq_true h) fun _ _ _ _ => .int _
abbrev gDiv := gI2 (fun _ j => decide (0 < j ∧ j < 1073741824)) fun i j => .int (i / j)
theorem sim_div : OpR X (binaryOp .FloorDiv) (Sim2 X ct gDiv) := sim_i2 op_fdiv (fun i j h => show 0 < j ∧ j < 1073741824 from of_decide_eq_true h) fun _ _ _ _ => .int _
abbrev gPow := gI2 (fun i j => decide (0 ≤ j ∧ j ≤ 1000000 ∧ i.natAbs < 18446744073709551616)) fun i j => .int (i ^ j.toNat)
theorem sim_pow : OpR X (binaryOp .Pow) (Sim2 X ct gPow) := sim_i2 op_pow (fun i j h => show 0 ≤ j ∧ j ≤ 1000000 ∧ i.natAbs < 18446744073709551616 from of_decide_eq_true h) fun _ _ _ _ => .int _
/-! comparisons -/
abbrev gLt := gI2 (fun _ _ => true) fun i j => .bool (decide (i < j))
abbrev gLe := gI2 (fun _ _ => true) fun i j => .bool (decide (i ≤ j))
abbrev gGt := gI2 (fun _ _ => true) fun i j => .bool (decide (j < i))
abbrev gGe := gI2 (fun _ _ => true) fun i j => .bool (decide (j ≤ i))
theorem sim_lt : OpR X (compareOp .Lt) (Sim2 X ct gLt) := sim_i20 op_lt fun _ _ _ _ => .bool _
theorem sim_le : OpR X (compareOp .LtE) (Sim2 X ct gLe) := sim_i20 op_le fun _ _ _ _ => .bool _
theorem sim_gt : OpR X (compareOp .Gt) (Sim2 X ct gGt) := sim_i20 op_gt fun _ _ _ _ => .bool _
theorem sim_ge : OpR X (compareOp .GtE) (Sim2 X ct gGe) := sim_i20 op_ge fun _ _ _ _ => .bool _
mutual
/-- pure data of a value -/
def asD (w : W) (S : Store) : Option PyData :=
  match w with
  | .d x => some x
  | .loc l => match S[l]? with
    | some (.lst ds) => some (.list ds)
    | _ => none
  | .tp ws => match asDs ws S with
    | some ds => some (.tuple ds)
    | none => none
  | .fro _ => none
def asDs (ws : List W) (S : Store) : Option (List PyData) :=
  match ws with
  | [] => some []
  | w :: r => match asD w S, asDs r S with
    | some d, some ds => some (d :: ds)
    | _, _ => none
end
mutual
theorem RepD.dp {K : PySem.W.Frag} {η : List Addr} {H : Hp} : ∀ (x : PyData) (v : V), x.hasDict = false → RepD K η H x v → Dp K H v x
  | .none, _, _, h => by cases h; exact .non
  | .bool _, _, _, h => by cases h; exact .bl _
  | .int _, _, _, h => by cases h; exact .int _
  | .str _, _, _, h => by cases h; exact .str _
  | .list ds, _, n, h => by cases h with | list h1 h2 h3 => exact .lst (SqL.of h1) (RepDs.dp ds _ n h3)
  | .tuple ds, _, n, h => by cases h with | tuple h1 h2 => exact .tup h1 (RepDs.dp ds _ n h2)
  | .dict _, _, n, h => by cases n
theorem RepDs.dp {K : PySem.W.Frag} {η : List Addr} {H : Hp} : ∀ (xs : List PyData) (vs : List V), PyData.hasDictAll xs = false → RepDs K η H xs vs → DpAll K H vs xs
  | [], _, _, h => by cases h; exact .nil
  | x :: xs, _, n, h => by
    cases h with
    | cons h1 h2 =>
      have n2 : (PyData.hasDict x || PyData.hasDictAll xs) = false := n
      rw [Bool.or_eq_false_iff] at n2
      exact .cons (RepD.dp x _ n2.1 h1) (RepDs.dp xs _ n2.2 h2)
end
mutual
theorem asD_at {K : PySem.W.Frag} {η : List Addr} {H : Hp} {S : Store} (rp : Rp K η H S) : ∀ (w : W) (v : V) (x : PyData), asD w S = some x → x.hasDict = false → RepW K η H w v → Dp K H v x
  | .d y, v, x, e, n, r => by rw [asD] at e; cases e; cases r with | d r => exact RepD.dp _ _ n r
  | .loc l, v, x, e, n, r => by
    rw [asD] at e
    cases r with
    | loc r =>
      cases q : S[l]? with
      | none => rw [q] at e; cases e
      | some o =>
        rw [q] at e
        cases o with
        | lst ws =>
          cases e
          obtain ⟨vs, h1, h2⟩ := rp.all _ _ _ r q
          exact .lst (SqL.of h1) (RepDs.dp _ _ n h2)
        | dK _ => cases e
        | dT _ => cases e
        | ob _ _ => cases e
  | .tp ws, v, x, e, n, r => by
    rw [asD] at e
    cases r with
    | tp h1 h2 =>
      cases q : asDs ws S with
      | none => rw [q] at e; cases e
      | some ds =>
        rw [q] at e
        cases e
        exact .tup h1 (asDs_at rp ws _ ds q n h2)
  | .fro _, v, x, e, n, r => by rw [asD] at e; cases e
theorem asDs_at {K : PySem.W.Frag} {η : List Addr} {H : Hp} {S : Store} (rp : Rp K η H S) : ∀ (ws : List W) (vs : List V) (xs : List PyData), asDs ws S = some xs → PyData.hasDictAll xs = false → RepWs K η H ws vs → DpAll K H vs xs
  | [], vs, xs, e, n, r => by rw [asDs] at e; cases e; cases r; exact .nil
  | w :: ws, vs, xs, e, n, r => by
    rw [asDs] at e
    cases r with
    | cons r1 r2 =>
      split at e
      · rename_i d ds e1 e2
        cases e
        have n2 : (PyData.hasDict d || PyData.hasDictAll ds) = false := n
        rw [Bool.or_eq_false_iff] at n2
        exact .cons (asD_at rp w _ d e1 n2.1 r1) (asDs_at rp ws _ ds e2 n2.2 r2)
      · cases e
end
theorem asD_ok {K : PySem.W.Frag} {η : List Addr} {H : Hp} {S : Store} {w : W} {v : V} {x : PyData} (e : asD w S = some x) (n : x.hasDict = false) (rp : Rp K η H S) (r : RepW K η H w v) : Dp K H v x := asD_at rp w v x e n r
theorem noD_of {x : PyData} (h : SeqAt.shaped x = true) : x.hasDict = false := PyData.hasDict_of_canLay _ (SeqAt.canLay_of_shaped h)
def gEqD (a b : W) (S : Store) : O := match asD a S, asD b S with
  | some x, some y => if SeqAt.shaped x = true ∧ SeqAt.shaped y = true then some (.d (.bool (PyData.eqv x y)), S) else none
  | _, _ => none
def gNeD (a b : W) (S : Store) : O := match asD a S, asD b S with
  | some x, some y => if SeqAt.shaped x = true ∧ SeqAt.shaped y = true then some (.d (.bool (!PyData.eqv x y)), S) else none
  | _, _ => none
/-- two texts, whatever their signs -/
def gEqS (a b : W) (S : Store) : O := match a, b with
  | .d (.str x), .d (.str y) => some (.d (.bool (x == y)), S)
  | _, _ => none
def gNeS (a b : W) (S : Store) : O := match a, b with
  | .d (.str x), .d (.str y) => some (.d (.bool (!(x == y))), S)
  | _, _ => none
def gEq (a b : W) (S : Store) : O := match gEqS a b S with
  | some o => some o
  | none => gEqD a b S
def gNe (a b : W) (S : Store) : O := match gNeS a b S with
  | some o => some o
  | none => gNeD a b S
theorem sim_eqS : OpR X (compareOp .Eq) (Sim2 X ct gEqS) := OpR.fit op_eq fun x y H Q ⟨η, S, wx, wy, rp, rx, ry, h⟩ => by
  unfold gEqS at h
  split at h
  · cases rx with
    | d rx =>
      cases ry with
      | d ry =>
        cases rx
        cases ry
        refine ⟨rfl, ?_⟩
        rw [dec_str]
        exact same_val rp (.d (.bool _)) h
  · exact h.elim
theorem sim_neS : OpR X (compareOp .NotEq) (Sim2 X ct gNeS) := OpR.fit op_ne fun x y H Q ⟨η, S, wx, wy, rp, rx, ry, h⟩ => by
  unfold gNeS at h
  split at h
  · cases rx with
    | d rx =>
      cases ry with
      | d ry =>
        cases rx
        cases ry
        refine ⟨rfl, ?_⟩
        rw [dec_str]
        exact same_val rp (.d (.bool _)) h
  · exact h.elim
theorem sim_eqD (hu : X.A.units + 64 < cLine) : OpR X (compareOp .Eq) (Sim2 X ct gEqD) := OpR.fit (op_eqD hu) fun x y H Q ⟨η, S, wx, wy, rp, rx, ry, h⟩ => by
  unfold gEqD at h
  split at h
  · rename_i d e e1 e2
    split at h
    · rename_i hs
      exact ⟨d, e, asD_ok e1 (noD_of hs.1) rp rx, asD_ok e2 (noD_of hs.2) rp ry, hs.1, hs.2, same_val rp (.d (.bool _)) h⟩
    · exact h.elim
  · exact h.elim
theorem sim_neD (hu : X.A.units + 64 < cLine) : OpR X (compareOp .NotEq) (Sim2 X ct gNeD) := OpR.fit (op_neD hu) fun x y H Q ⟨η, S, wx, wy, rp, rx, ry, h⟩ => by
  unfold gNeD at h
  split at h
  · rename_i d e e1 e2
    split at h
    · rename_i hs
      exact ⟨d, e, asD_ok e1 (noD_of hs.1) rp rx, asD_ok e2 (noD_of hs.2) rp ry, hs.1, hs.2, same_val rp (.d (.bool _)) h⟩
    · exact h.elim
  · exact h.elim
theorem sim_eq (hu : X.A.units + 64 < cLine) : OpR X (compareOp .Eq) (Sim2 X ct gEq) := OpR.orElse sim_eqS (sim_eqD hu)
theorem sim_ne (hu : X.A.units + 64 < cLine) : OpR X (compareOp .NotEq) (Sim2 X ct gNe) := OpR.orElse sim_neS (sim_neD hu)
/-- is None -/
def isNoneW : W → Bool
  | .d .none => true
  | _ => false
def gIsN (a b : W) (S : Store) : O := match b with
  | .d .none => some (.d (.bool (isNoneW a)), S)
  | _ => none
def gNotN (a b : W) (S : Store) : O := match b with
  | .d .none => some (.d (.bool (!isNoneW a)), S)
  | _ => none
theorem isNone_of {K : PySem.W.Frag} {η : List Addr} {H : Hp} {w : W} {v : V} (r : RepW K η H w v) : decide (v = .non) = isNoneW w := by
  cases r with
  | d r => cases r <;> simp [isNoneW]
  | loc _ => simp [isNoneW]
  | tp _ _ => simp [isNoneW]
  | fro _ _ => simp [isNoneW]
theorem sim_isN : OpR X (compareOp .Is) (Sim2 X ct gIsN) := OpR.fit op_isN fun x y H Q ⟨η, S, wx, wy, rp, rx, ry, h⟩ => by
  unfold gIsN at h
  split at h
  · cases ry with
    | d ry =>
      cases ry
      exact ⟨rfl, by rw [isNone_of rx]; exact same_val rp (.d (.bool _)) h⟩
  · exact h.elim
theorem sim_notN : OpR X (compareOp .IsNot) (Sim2 X ct gNotN) := OpR.fit op_notN fun x y H Q ⟨η, S, wx, wy, rp, rx, ry, h⟩ => by
  unfold gNotN at h
  split at h
  · cases ry with
    | d ry =>
      cases ry
      exact ⟨rfl, by rw [isNone_of rx]; exact same_val rp (.d (.bool _)) h⟩
  · exact h.elim
/-- in a list or tuple of flat things -/
def flatD : PyData → Bool
  | .none => true
  | .bool _ => true
  | .int _ => true
  | .str _ => true
  | _ => false
def asSeq (w : W) (S : Store) : Option (List PyData) :=
  match w with
  | .d (.list xs) => some xs
  | .d (.tuple xs) => some xs
  | .loc l => match S[l]? with
    | some (.lst ws) => some ws
    | _ => none
  | .fro xs => some xs
  | _ => none
theorem asSeq_ok {K : PySem.W.Frag} {η : List Addr} {H : Hp} {S : Store} {w : W} {v : V} {xs : List PyData} (e : asSeq w S = some xs) (rp : Rp K η H S) (r : RepW K η H w v) : ∃ a vs, v = .ref a ∧ (SqL K H a vs ∨ SqT K H a vs) ∧ RepDs K η H xs vs := by
  cases w with
  | d x =>
    cases r with
    | d r =>
      cases x <;> cases e
      · cases r with
        | list h1 h2 h3 => exact ⟨_, _, rfl, .inl (SqL.of h1), h3⟩
      · cases r with
        | tuple h1 h2 => exact ⟨_, _, rfl, .inr h1, h2⟩
  | loc l =>
    have e' : asL (.loc l) S = some xs := by
      cases q : S[l]? with
      | none => simp only [asSeq, q] at e; cases e
      | some o =>
        cases o with
        | lst ws => simp only [asSeq, q] at e; simp only [asL, q]; exact e
        | dK _ => simp only [asSeq, q] at e; cases e
        | dT _ => simp only [asSeq, q] at e; cases e
        | ob _ _ => simp only [asSeq, q] at e; cases e
    obtain ⟨a, vs, h1, h2, h3⟩ := asL_ok e' rp r
    exact ⟨a, vs, h1, .inl (SqL.of h2), h3⟩
  | tp _ => cases e
  | fro _ =>
    cases e
    cases r with
    | fro h1 h2 => exact ⟨_, _, rfl, .inl h1.seq, h2⟩
theorem flat_of {K : PySem.W.Frag} {η : List Addr} {H : Hp} : ∀ {d : PyData} {v : V}, RepD K η H d v → flatD d = true → flatV v = true ∧ ∀ {e : PyData} {u : V}, RepD K η H e u → flatD e = true → eqV v u = PyData.eqv d e := by
  intro d v r f
  cases r with
  | none => exact ⟨rfl, fun {e u} r2 f2 => by cases r2 <;> first | rfl | cases f2⟩
  | bool b => exact ⟨rfl, fun {e u} r2 f2 => by cases r2 <;> first | rfl | cases f2⟩
  | int i => exact ⟨rfl, fun {e u} r2 f2 => by cases r2 <;> first | rfl | cases f2⟩
  | str x => exact ⟨rfl, fun {e u} r2 f2 => by cases r2 <;> first | rfl | cases f2⟩
  | list _ _ _ => cases f
  | tuple _ _ => cases f
  | dct _ _ => cases f
  | own _ _ _ => cases f
  | dctE _ _ _ _ => cases f
  | ownE _ _ _ _ _ _ => cases f
theorem flats_of {K : PySem.W.Frag} {η : List Addr} {H : Hp} {x : PyData} {v : V} (r : RepD K η H x v) (f : flatD x = true) : ∀ {ds : List PyData} {vs : List V}, RepDs K η H ds vs → ds.all flatD = true → vs.all flatV = true ∧ inV v vs = ds.any fun d => PyData.eqv d x
  | [], _, h, _ => by cases h; exact ⟨rfl, rfl⟩
  | d :: ds, _, h, a => by
    cases h with
    | cons h1 h2 =>
      rw [List.all_cons, Bool.and_eq_true] at a
      obtain ⟨i1, i2⟩ := flats_of r f h2 a.2
      obtain ⟨j1, j2⟩ := flat_of h1 a.1
      refine ⟨by rw [List.all_cons, j1, i1]; rfl, ?_⟩
      unfold inV at i2 ⊢
      rw [List.any_cons, List.any_cons, i2, j2 r f]
def gIn (neg : Bool) (a b : W) (S : Store) : O := match a, asSeq b S with
  | .d x, some xs => if flatD x = true ∧ xs.all flatD = true then some (.d (.bool (if neg then !xs.any (fun d => PyData.eqv d x) else xs.any fun d => PyData.eqv d x)), S) else none
  | _, _ => none
theorem sim_in : OpR X (compareOp .In) (Sim2 X ct (gIn false)) := OpR.fit op_in_seq fun x y H Q ⟨η, S, wx, wy, rp, rx, ry, h⟩ => by
  unfold gIn at h
  split at h
  · rename_i d xs e2
    obtain ⟨a, vs, rfl, h1, r1⟩ := asSeq_ok e2 rp ry
    cases rx with
    | d rx =>
      split at h
      · rename_i hf
        obtain ⟨i1, i2⟩ := flats_of rx hf.1 r1 hf.2
        exact ⟨a, vs, rfl, h1, (flat_of rx hf.1).1, i1, by rw [i2]; exact same_val rp (.d (.bool _)) h⟩
      · exact h.elim
  · exact h.elim
theorem sim_notIn : OpR X (compareOp .NotIn) (Sim2 X ct (gIn true)) := OpR.fit op_notIn_seq fun x y H Q ⟨η, S, wx, wy, rp, rx, ry, h⟩ => by
  unfold gIn at h
  split at h
  · rename_i d xs e2
    obtain ⟨a, vs, rfl, h1, r1⟩ := asSeq_ok e2 rp ry
    cases rx with
    | d rx =>
      split at h
      · rename_i hf
        obtain ⟨i1, i2⟩ := flats_of rx hf.1 r1 hf.2
        exact ⟨a, vs, rfl, h1, (flat_of rx hf.1).1, i1, by rw [i2]; exact same_val rp (.d (.bool _)) h⟩
      · exact h.elim
  · exact h.elim
end
end VI
set_option Elab.async false
set_option linter.all false
set_option maxRecDepth 100000
namespace VI
open PySem PySem.Spec PyProof.Rows L2
theorem kin_classD {prog : Program} {w : World} {A : Around} {E : Value → Shared → Prop} {s : Shared} {K : PySem.W.Frag} {x D : Addr} {ox od : Obj} {Q : Option Value → Shared → Prop} (T : ExcC K D) (X : K.In s.heap) (I : PySem.W.InstAt s.heap x ox D (some od)) (h : Q (some (.ref D)) ⟨s.heap, s.gens, s.drawn, s.toks + 1, s.os⟩) : wpAny (model prog w) A (getAttr? (.ref x) "__class__") Q E s := by
  obtain ⟨cd, hc, _⟩ := PySem.W.any_some T.hd
  have hf := PySem.W.findObj_data (od := od) (name := "__class__") (by rw [hc]; rfl) T.ha T.hn T.ht
  obtain ⟨hp, g, d, t, os⟩ := s
  have L0 := I.type (M := model prog w)
  have L1 := PySem.W.looks_findIn (M := model prog w) X T.hg
  have L2 := PySem.W.looks_findIn (M := model prog w) X T.hk
  have L3 := PySem.W.looks_find (M := model prog w) X I hf
  have sub : PySem.W.Looks (model prog w) hp (isInstance (.ref x) (.type "BaseException")) true := L0.andThen (PySem.W.looks_subIn X T.hs)
  unfold getAttr?
  refine wpAny_bind (wpAny_mkText ?_)
  unfold getAttrBy?
  refine wpAny_bind (wpAny_attempt ?_)
  unfold getAttrBy
  refine wpAny_holding (wpAny_bind (L0.at (wpAny_bind (L1.at ?_))))
  refine wpAny_ite_false (by kernel_rfl) ?_
  unfold getAttrByItsOwn
  refine wpAny_bind ?_
  show wpAny _ _ (typeLookup (.ref D) "__getattr__") _ _ _
  refine L2.at (wpAny_bind (wpAny_attempt (wpAny_holding ?_)))
  unfold callGetattribute
  refine wpAny_ite_false (by kernel_rfl) ?_
  unfold boundAndCalled
  rw [F.excAttr_ValueError.ga.bind]
  refine wpAny_bind (wpAny_pure ?_)
  show wpAny _ _ (call (.builtin "BaseException.__getattribute__") [.ref x, .str "__class__" t]) _ _ _
  have hk : builtinKind "BaseException.__getattribute__" = some .slot := by kernel_rfl
  have hs : splitId "BaseException.__getattribute__" = some ("BaseException", "__getattribute__") := by kernel_rfl
  have hp2 := F.excAttr_ValueError.ga.plain
  refine wpAny_call (codeAny_call_builtin hp2 F.entry_bexc_ga ?_)
  have ha := F.args_bexc_ga (.ref x) (.str "__class__" t)
  generalize hid : ("BaseException.__getattribute__" : String) = id1 at ha hk hs ⊢
  refine PySem.W.check_slot (i := id1) (self := .ref x) (rest := [.str "__class__" t]) (kw := []) hk hs sub ha ?_
  unfold Builtin.«object.__getattribute__» slotArgs
  refine wpAny_bind (wpAny_ite_false (by rfl) (wpAny_ite_false (by rfl) (wpAny_pure ?_)))
  refine wpAny_bind (wpAny_pure (wpAny_bind (L0.at (wpAny_bind (L3.at ?_)))))
  unfold Builtin.ObjectAttr.bindTo
  refine wpAny_bind (wpAny_holding ?_)
  refine wpAny_call (PySem.W.class_get X I T.hm ?_)
  refine wpAny_pure ?_
  show wpAny _ _ (handedOut (.ref D)) _ _ _
  rw [PySem.W.handedOut_of rfl]
  exact wpAny_pure (wpAny_pure h)
/-- an own exception with fields, by its class -/
theorem kitx_excD {K : PySem.W.Frag} {x D : Addr} {ox od : Obj} (T : ExcC K D) : PySem.W.KitX K (.ref x) (.ref D) fun h => PySem.W.InstAt h x ox D (some od) := by
  have k0 := PySem.W.handS_kitx_exc (x := x) (ox := ⟨.ref D, none, .fields #[], #[]⟩) T.hg T.hk T.hs T.hd T.ha T.hn T.ht T.hm
  refine ⟨fun M h _ I => I.type, fun M h X I => ?_, fun h tp dd its n sl X htp => ?_, fun {prog} {w} {A} {E} {Q} {s} X I k => kin_classD T X I k⟩
  · obtain ⟨cd, hc, _⟩ := PySem.W.any_some T.hd
    intro A Q E s k q
    obtain ⟨o, ho, hd⟩ : ∃ o : Obj, List.lookup D K = some o ∧ o.data = .cls cd := by
      unfold PySem.W.clsIn at hc
      split at hc
      · rename_i e
        cases hc
        exact ⟨_, e, rfl⟩
      · cases hc
    show wpAny M A (loadHead D >>= fun o => pure (match o.data with | .cls c => true | x => false)) Q E s
    unfold loadHead
    refine wpAny_bind (wpAny_loadPart (k _ _ (X _ _ ho)) (wpAny_pure ?_))
    rw [hd]
    exact q
  · exact k0.ne h tp dd its n sl X htp
end VI
set_option Elab.async false
set_option linter.all false
set_option maxRecDepth 100000
namespace VI
open PySem PySem.Spec PyProof.Rows L2

/-! subscripts -/
theorem atI_rep {K : PySem.W.Frag} {η : List Addr} {H : Hp} {ws : List W} {vs : List V} (r : RepWs K η H ws vs) {i : Int} {w : W} (e : atI ws i = some w) : ∃ v, atI vs i = some v ∧ RepW K η H w v := by
  unfold atI at e ⊢
  rw [← r.length]
  cases q : ixN ws.length i with
  | none => rw [q] at e; cases e
  | some j =>
    rw [q] at e
    obtain ⟨v, h1, h2⟩ := r.get (show ws[j]? = some w from e)
    exact ⟨v, h1, h2⟩
theorem atI_repD {K : PySem.W.Frag} {η : List Addr} {H : Hp} {ws : List PyData} {vs : List V} (r : RepDs K η H ws vs) {i : Int} {w : PyData} (e : atI ws i = some w) : ∃ v, atI vs i = some v ∧ RepD K η H w v := by
  unfold atI at e ⊢
  rw [← r.length]
  cases q : ixN ws.length i with
  | none => rw [q] at e; cases e
  | some j =>
    rw [q] at e
    obtain ⟨v, h1, h2⟩ := r.get (show ws[j]? = some w from e)
    exact ⟨v, h1, h2⟩
def gIx (a b : W) (S : Store) : O := match b with
  | .d (.int i) => match asSeq a S with
    | some xs => (atI xs i).map fun x => (.d x, S)
    | none => match a with
      | .tp ws => (atI ws i).map fun w => (w, S)
      | .d (.str z) => if z.length ≤ lim then (atI z.cps.toList i).map fun c => (.d (.str ⟨#[c]⟩), S) else none
      | _ => none
  | _ => none
section
variable {X : Cx} {ct : Nat → Option Addr} {E : EX}
theorem ix_any : IxR X (Sim2 X ct gIx) := by
  intro value slice pins s σ H x y v u Q I rx ry ⟨η, S, wx, wy, rp, r1, r2, q⟩ hs
  refine ix_seq value slice pins s σ H x y v u Q I rx ry ?_ hs
  unfold gIx at q
  split at q
  · rename_i i
    cases r2 with
    | d r2 =>
      cases r2
      split at q
      · rename_i ws e
        obtain ⟨a, vs, rfl, h1, h2⟩ := asSeq_ok e rp r1
        cases e2 : atI ws i with
        | none => rw [e2] at q; exact q.elim
        | some w =>
          rw [e2] at q
          obtain ⟨v', g1, g2⟩ := atI_repD h2 e2
          rcases h1 with h1 | h1
          · exact .inl ⟨a, vs, i, v', rfl, rfl, h1, g1, same_val rp (.d g2) q⟩
          · exact .inr (.inl ⟨a, vs, i, v', rfl, rfl, h1, g1, same_val rp (.d g2) q⟩)
      · split at q
        · rename_i ws _
          cases r1 with
          | tp h1 h2 =>
            cases e2 : atI ws i with
            | none => rw [e2] at q; exact q.elim
            | some w =>
              rw [e2] at q
              obtain ⟨v', g1, g2⟩ := atI_rep h2 e2
              exact .inr (.inl ⟨_, _, i, v', rfl, rfl, h1, g1, same_val rp g2 q⟩)
        · rename_i z _
          cases r1 with
          | d r1 =>
            cases r1
            split at q
            · rename_i hz
              cases e2 : atI z.cps.toList i with
              | none => rw [e2] at q; exact q.elim
              | some c =>
                rw [e2] at q
                exact .inr (.inr ⟨z, i, c, rfl, rfl, lim_ok hz, e2, same_val rp (.d (.str _)) q⟩)
            · exact q.elim
        · exact q.elim
  · exact q.elim
theorem i_ix {a b : Expr} {fa fb : FE} {pos : Pos} (ha : PE X a (tF (gx X ct) E fa)) (hb : PE X b (tF (gx X ct) E fb)) (hs : PlainIx b := by intro _ _; rfl) : PE X (.Subscript a b pos) (tF (gx X ct) E (f2 gIx fa fb)) :=
  PEw (pe_ix ix_any ha hb hs) (get2 fun _ _ _ _ h => h)

/-! slices -/
abbrev FO := Rho → Store → R (Option Int)
abbrev relO : Option Int → List Addr → Hp → Option Int → Prop := fun o _ _ v => v = o
def tO (G : Gc) (E : EX) (f : FO) : TO := fun σ H Q => ∃ η ρ S, Rp G.K η H S ∧ ERep G.K η H ρ σ ∧ FinR G relO (E σ) η H (f ρ S) Q
def fNoPart : FO := fun _ S => .ok none S
def intOf (w : W) (S : Store) : R (Option Int) := match w with
  | .d (.int i) => .ok (some i) S
  | _ => .bad
def fPart (a : FE) : FO := fun ρ S => (a ρ S).bind intOf
theorem POw {e : Option Expr} {t t' : TO} (h : PO X e t) (i : ∀ σ H Q, t' σ H Q → t σ H Q) : PO X e t' := ⟨fun pins s σ H Q I q => h.run pins s σ H Q I (i σ H Q q)⟩
theorem o_none : PO X none (tO (gx X ct) E fNoPart) := POw po_none fun σ H Q ⟨η, ρ, S, rp, er, h⟩ => h η H none (Fu.refl _ _) rp rfl
theorem o_some {e : Expr} {f : FE} (h : PE X e (tF (gx X ct) E f)) : PO X (some e) (tO (gx X ct) E (fPart f)) := POw (po_some h) fun σ H Q ⟨η, ρ, S, rp, er, h⟩ =>
  ⟨η, ρ, S, rp, er, FinR.mono (FinR.bind h) fun v H1 ⟨η1, w, S1, f, rp1, r1, h1⟩ => by
    unfold intOf at h1
    split at h1
    · cases r1 with
      | d r1 => cases r1; exact ⟨_, rfl, h1 η1 H1 _ (Fu.refl _ _) rp1 rfl⟩
    · exact h1.elim⟩
def cutG {α : Type} (xs : List α) (lo hi : Option Int) : List α := (xs.drop (HT.sIx xs.length 0 lo)).take (HT.sIx xs.length xs.length hi - HT.sIx xs.length 0 lo)
theorem cut_rep {K : PySem.W.Frag} {η : List Addr} {H : Hp} {ws : List W} {vs : List V} (r : RepWs K η H ws vs) (lo hi : Option Int) : RepWs K η H (cutG ws lo hi) (cutV vs lo hi) := by
  unfold cutG cutV
  rw [← r.length]
  exact (r.drop _).take _
theorem cutG_all {α : Type} (xs : List α) (lo hi : Option Int) (h : HT.sIx xs.length 0 lo = 0 ∧ HT.sIx xs.length xs.length hi = xs.length) : cutG xs lo hi = xs := by
  unfold cutG
  rw [h.1, h.2, List.drop_zero, Nat.sub_zero, List.take_length]
theorem cut_repD {K : PySem.W.Frag} {η : List Addr} {H : Hp} {ws : List PyData} {vs : List V} (r : RepDs K η H ws vs) (lo hi : Option Int) : RepDs K η H (cutG ws lo hi) (cutV vs lo hi) := by
  unfold cutG cutV
  rw [← r.length]
  exact (r.drop _).take _
def gSl (a : W) (lo hi : Option Int) (S : Store) : O := match a with
  | .tp ws => some (mkT (cutG ws lo hi), S)
  | .d (.tuple xs) => some (.d (.tuple (cutG xs lo hi)), S)
  | a => match asSeq a S with
    | some xs => some (.d (.list (cutG xs lo hi)), S)
    | none => none
def SimS (X : Cx) (ct : Nat → Option Addr) (g : W → Option Int → Option Int → Store → O) : V → Option Int → Option Int → Hp → VK → Prop := fun x lo hi H Q => ∃ η S wx, Rp X.K η H S ∧ RepW X.K η H wx x ∧ FinO (gx X ct) η H (g wx lo hi S) Q
/-- a list of the heap, where it is no tuple -/
theorem asSeq_list {K : PySem.W.Frag} {η : List Addr} {H : Hp} {S : Store} {w : W} {v : V} {xs : List PyData} (e : asSeq w S = some xs) (n : ∀ ys, w ≠ .d (.tuple ys)) (rp : Rp K η H S) (r : RepW K η H w v) : ∃ a vs, v = .ref a ∧ SqL K H a vs ∧ RepDs K η H xs vs := by
  cases w with
  | d x =>
    cases r with
    | d r =>
      cases x <;> cases e
      · cases r with
        | list h1 h2 h3 => exact ⟨_, _, rfl, SqL.of h1, h3⟩
      · exact absurd rfl (n _)
  | loc l =>
    cases r with
    | loc r =>
      cases q : S[l]? with
      | none => simp only [asSeq, q] at e; cases e
      | some o =>
        cases o with
        | lst ws =>
          simp only [asSeq, q] at e
          cases e
          obtain ⟨vs, h1, h2⟩ := rp.all _ _ _ r q
          exact ⟨_, vs, rfl, SqL.of h1, h2⟩
        | dK _ => simp only [asSeq, q] at e; cases e
        | dT _ => simp only [asSeq, q] at e; cases e
        | ob _ _ => simp only [asSeq, q] at e; cases e
  | tp _ => cases e
  | fro _ =>
    cases e
    cases r with
    | fro h1 h2 => exact ⟨_, _, rfl, h1.seq, h2⟩
theorem sl_any : SlR X (SimS X ct gSl) := by
  intro pins s σ H x v vl vu lo hi sl Q I rx hs pl pu ⟨η, S, wx, rp, r1, q⟩
  refine (sl_list.or sl_tupA) pins s σ H x v vl vu lo hi sl Q I rx hs pl pu ?_
  unfold gSl at q
  split at q
  · rename_i ws
    cases r1 with
    | tp h1 h2 =>
      refine .inr ⟨_, _, rfl, h1, fun hw => ?_, fun _ => new_mkT rp (cut_rep h2 lo hi) q⟩
      rw [← h2.length] at hw
      rw [cutG_all ws lo hi hw] at q
      exact same_mkT rp h1 h2 q
  · rename_i xs
    cases r1 with
    | d r1 =>
      cases r1 with
      | tuple h1 h2 =>
        refine .inr ⟨_, _, rfl, h1, fun hw => ?_, fun _ => new_tup rp (cut_repD h2 lo hi) q⟩
        rw [← h2.length] at hw
        rw [cutG_all xs lo hi hw] at q
        exact same_val rp (.d (.tuple h1 h2)) q
  · rename_i n2
    split at q
    · rename_i ws e
      obtain ⟨a, vs, rfl, h1, h2⟩ := asSeq_list e (fun ys e => n2 ys e) rp r1
      exact .inl ⟨a, vs, rfl, h1, new_list rp (cut_repD h2 lo hi) q⟩
    · exact q.elim
def fSl (g : W → Option Int → Option Int → Store → O) (a : FE) (lo hi : FO) : FE := fun ρ S => (a ρ S).bind fun x S1 => (lo ρ S1).bind fun l S2 => (hi ρ S2).bind fun u S3 => lift (g x l u S3)
theorem i_sl {e : Expr} {lo hi : Option Expr} {fe : FE} {fl fh : FO} {pos p2 : Pos} (he : PE X e (tF (gx X ct) E fe)) (hl : PO X lo (tO (gx X ct) E fl)) (hu : PO X hi (tO (gx X ct) E fh)) : PE X (.Subscript e (.Slice lo hi none p2) pos) (tF (gx X ct) E (fSl gSl fe fl fh)) :=
  PEw (pe_slice sl_any he hl hu) fun σ H Q ⟨η, ρ, S, rp, er, h⟩ =>
    ⟨η, ρ, S, rp, er, FinR.mono (FinR.bind h) fun v H1 ⟨η1, w, S1, f, rp1, r1, h1⟩ =>
      ⟨η1, ρ, S1, rp1, er.fu f, FinR.mono (FinR.bind h1) fun v2 H2 ⟨η2, l, S2, f2, rp2, r2, h2⟩ =>
        ⟨η2, ρ, S2, rp2, (er.fu f).fu f2, FinR.mono (FinR.bind h2) fun v3 H3 ⟨η3, u, S3, f3, rp3, r3, h3⟩ => by
          obtain rfl : v2 = l := r2
          obtain rfl : v3 = u := r3
          exact ⟨η3, S3, w, rp3, RepW.fu f3 _ _ (RepW.fu f2 _ _ r1), lift_ok h3⟩⟩⟩⟩

/-! argument lists, displays -/
def fA0 : FA := fun _ S => .ok [] S
def fAc (a : FE) (r : FA) : FA := fun ρ S => (a ρ S).bind fun x S1 => (r ρ S1).bind fun xs S2 => .ok (x :: xs) S2
theorem a0 : PA X [] (tA (gx X ct) E fA0) := PAw pa_nil fun σ H Q ⟨η, ρ, S, rp, er, h⟩ => h η H [] (Fu.refl _ _) rp .nil
theorem ac {e : Expr} {es : List Expr} {fa : FE} {fr : FA} (ha : PE X e (tF (gx X ct) E fa)) (hr : PA X es (tA (gx X ct) E fr)) (hs : starEach (e :: es) X.env = (false, eval e X.env) :: starEach es X.env := by rfl) : PA X (e :: es) (tA (gx X ct) E (fAc fa fr)) :=
  PAw (pa_cons ha hr hs) fun σ H Q ⟨η, ρ, S, rp, er, h⟩ =>
    ⟨η, ρ, S, rp, er, FinR.mono (FinR.bind h) fun v H1 ⟨η1, w, S1, f, rp1, r1, h1⟩ =>
      ⟨η1, ρ, S1, rp1, er.fu f, FinR.mono (FinR.bind h1) fun v2 H2 ⟨η2, l, S2, f2, rp2, r2, h2⟩ => h2 η2 H2 _ (Fu.refl _ _) rp2 (.cons (RepW.fu f2 _ _ r1) r2)⟩⟩
/-- what is done with values -/
def fL (g : List W → Store → O) (a : FA) : FE := fun ρ S => (a ρ S).bind fun ws S1 => lift (g ws S1)
def SimL (X : Cx) (ct : Nat → Option Addr) (g : List W → Store → O) : List V → Hp → VK → Prop := fun xs H Q => ∃ η S ws, Rp X.K η H S ∧ RepWs X.K η H ws xs ∧ FinO (gx X ct) η H (g ws S) Q
theorem getL {a : FA} {g : List W → Store → O} {r : List V → Hp → VK → Prop} (hr : ∀ x H Q, SimL X ct g x H Q → r x H Q) : ∀ σ H Q, tF (gx X ct) E (fL g a) σ H Q → tA (gx X ct) E a σ H fun x H1 => r x H1 Q := fun σ H Q ⟨η, ρ, S, rp, er, h⟩ =>
  ⟨η, ρ, S, rp, er, FinR.mono (FinR.bind h) fun v H1 ⟨η1, w, S1, f, rp1, r1, h1⟩ => hr _ _ _ ⟨η1, S1, w, rp1, r1, lift_ok h1⟩⟩
def gTup (ws : List W) (S : Store) : O := if ws.length ≤ lim then some (mkT ws, S) else none
def gLst (ws : List W) (S : Store) : O := if ws.length ≤ lim then (datas ws).map fun ds => (.d (.list ds), S) else none
def gLive (ws : List W) (S : Store) : O := if ws.length ≤ lim then (datas ws).map fun ds => (.loc S.length, S ++ [.lst ds]) else none
theorem i_tup {es : List Expr} {fa : FA} {x1 pos} (h : PA X es (tA (gx X ct) E fa)) : PE X (.Tuple es x1 pos) (tF (gx X ct) E (fL gTup fa)) := PEw (pe_tup h) (getL (r := fun xs H Q => xs.length ≤ sizeLine ∧ ∀ p, H p = none → Q (.ref p) (upd H p (.tup xs))) fun x H Q ⟨η, S, ws, rp, r, q⟩ => by
  unfold gTup at q
  split at q
  · rename_i hz
    exact ⟨lim_ok (by rw [← r.length]; exact hz), new_mkT rp r q⟩
  · exact q.elim)
theorem i_lst {es : List Expr} {fa : FA} {pos} (h : PA X es (tA (gx X ct) E fa)) : PE X (.List es pos) (tF (gx X ct) E (fL gLst fa)) := PEw (pe_lst h) (getL (r := fun xs H Q => xs.length ≤ sizeLine ∧ ∀ p, H p = none → Q (.ref p) (upd H p (.lst xs))) fun x H Q ⟨η, S, ws, rp, r, q⟩ => by
  unfold gLst at q
  split at q
  · rename_i hz
    cases e : datas ws with
    | none => rw [e] at q; exact q.elim
    | some ds => rw [e] at q; exact ⟨lim_ok (by rw [← r.length]; exact hz), new_list rp (datas_ok e r) q⟩
  · exact q.elim)
theorem i_live {es : List Expr} {fa : FA} {pos} (h : PA X es (tA (gx X ct) E fa)) : PE X (.List es pos) (tF (gx X ct) E (fL gLive fa)) := PEw (pe_lst h) (getL (r := fun xs H Q => xs.length ≤ sizeLine ∧ ∀ p, H p = none → Q (.ref p) (upd H p (.lst xs))) fun x H Q ⟨η, S, ws, rp, r, q⟩ => by
  unfold gLive at q
  split at q
  · rename_i hz
    cases e : datas ws with
    | none => rw [e] at q; exact q.elim
    | some ds => rw [e] at q; exact ⟨lim_ok (by rw [← r.length]; exact hz), new_live rp (datas_ok e r) q⟩
  · exact q.elim)

/-! tests -/
def boolW (w : W) (S : Store) : R Bool := match w with
  | .d (.bool b) => .ok b S
  | _ => .bad
def fTest (a : FE) : FT := fun ρ S => (a ρ S).bind boolW
theorem t_val {e : Expr} {f : FE} (h : PE X e (tF (gx X ct) E f)) (he : ∀ whole, isTrue e X.env whole = (do let v ← whole; standAt e.pos; holding [v] (truthy v)) := by intro _; rfl) : PT X e (tT (gx X ct) E (fTest f)) := PTw (pt_val h he) fun σ H Q ⟨η, ρ, S, rp, er, h⟩ =>
  ⟨η, ρ, S, rp, er, FinR.mono (FinR.bind h) fun v H1 ⟨η1, w, S1, f, rp1, r1, h1⟩ => by
    unfold boolW at h1
    split at h1
    · cases r1 with
      | d r1 => cases r1; exact ⟨_, rfl, h1 η1 H1 _ (Fu.refl _ _) rp1 rfl⟩
    · exact h1.elim⟩
theorem t_cmp {op : CmpOp} {g : W → W → Store → O} {a b : Expr} {fa fb : FE} {pos : Pos} (ho : OpR X (compareOp op) (Sim2 X ct g)) (ha : PE X a (tF (gx X ct) E fa)) (hb : PE X b (tF (gx X ct) E fb)) (hm : behindInMarks op b = false) :
    PT X (.Compare a [op] [b] pos) (tT (gx X ct) E (fTest (f2 g fa fb))) := PTw (pt_cmpR ho ha hb hm) fun σ H Q ⟨η, ρ, S, rp, er, h⟩ => by
  have key : tF (gx X ct) E (f2 g fa fb) σ H fun x H' => ∃ k, x = .bl k ∧ Q k H' := ⟨η, ρ, S, rp, er, FinR.mono (FinR.bind h) fun v H1 ⟨η1, w, S1, f, rp1, r1, h1⟩ => by
    unfold boolW at h1
    split at h1
    · cases r1 with
      | d r1 => cases r1; exact ⟨_, rfl, h1 η1 H1 _ (Fu.refl _ _) rp1 rfl⟩
    · exact h1.elim⟩
  exact get2 (fun _ _ _ _ h => h) σ H _ key
/-- a value's truth -/
def truW (w : W) (S : Store) : Option Bool := match w with
  | .d .none => some false
  | .d (.bool b) => some b
  | .d (.int i) => some (i != 0)
  | .d (.str y) => if y.length ≤ lim then some ((y.length : Int) != 0) else none
  | .tp ws => some (!ws.isEmpty)
  | w => match asSeq w S with
    | some ws => some (!ws.isEmpty)
    | none => none
theorem isEmpty_rep {K : PySem.W.Frag} {η : List Addr} {H : Hp} {ws : List W} {vs : List V} (r : RepWs K η H ws vs) : (!ws.isEmpty) = !vs.isEmpty := by
  cases r <;> rfl
theorem isEmpty_repD {K : PySem.W.Frag} {η : List Addr} {H : Hp} {ws : List PyData} {vs : List V} (r : RepDs K η H ws vs) : (!ws.isEmpty) = !vs.isEmpty := by
  cases r <;> rfl
theorem truW_ok {K : PySem.W.Frag} {η : List Addr} {H : Hp} {S : Store} {w : W} {v : V} {b : Bool} (e : truW w S = some b) (rp : Rp K η H S) (r : RepW K η H w v) : TruV K v H b := by
  unfold truW at e
  split at e
  · cases r with | d r => cases r; cases e; rfl
  · cases r with | d r => cases r; cases e; rfl
  · cases r with | d r => cases r; cases e; rfl
  · cases r with
    | d r =>
      cases r
      split at e
      · rename_i hz
        cases e
        exact ⟨lim_ok hz, rfl⟩
      · cases e
  · cases r with
    | tp h1 h2 => cases e; exact .inr (.inl ⟨_, h1, isEmpty_rep h2⟩)
  · split at e
    · rename_i ws e1
      obtain ⟨a, vs, rfl, h1, h2⟩ := asSeq_ok e1 rp r
      cases e
      rcases h1 with h1 | h1
      · exact .inl ⟨vs, h1, isEmpty_repD h2⟩
      · exact .inr (.inl ⟨vs, h1, isEmpty_repD h2⟩)
    · cases e
def truR (w : W) (S : Store) : R Bool := match truW w S with
  | some b => .ok b S
  | none => .bad
def fTru (a : FE) : FT := fun ρ S => (a ρ S).bind truR
theorem t_tru {e : Expr} {f : FE} (h : PE X e (tF (gx X ct) E f)) (he : ∀ whole, isTrue e X.env whole = (do let v ← whole; standAt e.pos; holding [v] (truthy v)) := by intro _; rfl) : PT X e (tT (gx X ct) E (fTru f)) := PTw (pt_truth h he) fun σ H Q ⟨η, ρ, S, rp, er, h⟩ =>
  ⟨η, ρ, S, rp, er, FinR.mono (FinR.bind h) fun v H1 ⟨η1, w, S1, f, rp1, r1, h1⟩ => by
    unfold truR at h1
    split at h1
    · rename_i b e
      exact ⟨b, truW_ok e rp1 r1, h1 η1 H1 _ (Fu.refl _ _) rp1 rfl⟩
    · exact h1.elim⟩
def fAndT (a b : FT) : FT := fun ρ S => (a ρ S).bind fun c S1 => if c = true then b ρ S1 else .ok false S1
def fOrT (a b : FT) : FT := fun ρ S => (a ρ S).bind fun c S1 => if c = true then .ok true S1 else b ρ S1
def fNotT (a : FT) : FT := fun ρ S => (a ρ S).bind fun c S1 => .ok (!c) S1
theorem w_and1 {a : Expr} {f : FT} {pos : Pos} (h : PT X a (tT (gx X ct) E f)) : PW X (.BoolOp .And [a] pos) (tT (gx X ct) E f) := pw_and1 h
theorem w_or1 {a : Expr} {f : FT} {pos : Pos} (h : PT X a (tT (gx X ct) E f)) : PW X (.BoolOp .Or [a] pos) (tT (gx X ct) E f) := pw_or1 h
theorem w_and {a b : Expr} {rest : List Expr} {f g : FT} {pos : Pos} (h : PT X a (tT (gx X ct) E f)) (h2 : PW X (.BoolOp .And (b :: rest) pos) (tT (gx X ct) E g)) : PW X (.BoolOp .And (a :: b :: rest) pos) (tT (gx X ct) E (fAndT f g)) :=
  PWw (pw_and h h2) fun σ H Q ⟨η, ρ, S, rp, er, h⟩ => ⟨η, ρ, S, rp, er, FinR.mono (FinR.bind h) fun v H1 ⟨η1, w, S1, f, rp1, r1, h1⟩ => by
    obtain rfl : v = w := r1
    by_cases hc : v = true
    · rw [if_pos hc] at h1 ⊢; exact ⟨η1, ρ, S1, rp1, er.fu f, h1⟩
    · rw [if_neg hc] at h1 ⊢; exact h1 η1 H1 _ (Fu.refl _ _) rp1 rfl⟩
theorem w_or {a b : Expr} {rest : List Expr} {f g : FT} {pos : Pos} (h : PT X a (tT (gx X ct) E f)) (h2 : PW X (.BoolOp .Or (b :: rest) pos) (tT (gx X ct) E g)) : PW X (.BoolOp .Or (a :: b :: rest) pos) (tT (gx X ct) E (fOrT f g)) :=
  PWw (pw_or h h2) fun σ H Q ⟨η, ρ, S, rp, er, h⟩ => ⟨η, ρ, S, rp, er, FinR.mono (FinR.bind h) fun v H1 ⟨η1, w, S1, f, rp1, r1, h1⟩ => by
    obtain rfl : v = w := r1
    by_cases hc : v = true
    · rw [if_pos hc] at h1 ⊢; exact h1 η1 H1 _ (Fu.refl _ _) rp1 rfl
    · rw [if_neg hc] at h1 ⊢; exact ⟨η1, ρ, S1, rp1, er.fu f, h1⟩⟩
theorem t_not {a : Expr} {f : FT} {pos : Pos} (h : PT X a (tT (gx X ct) E f)) : PT X (.UnaryOp .Not a pos) (tT (gx X ct) E (fNotT f)) :=
  PTw (pt_not h) fun σ H Q ⟨η, ρ, S, rp, er, h⟩ => ⟨η, ρ, S, rp, er, FinR.mono (FinR.bind h) fun v H1 ⟨η1, w, S1, f, rp1, r1, h1⟩ => by
    obtain rfl : v = w := r1
    exact h1 η1 H1 _ (Fu.refl _ _) rp1 rfl⟩
/-- as values -/
def fAndV (a b : FE) : FE := fun ρ S => (a ρ S).bind fun w S1 => match w with
  | .d (.bool true) => b ρ S1
  | .d (.bool false) => .ok (.d (.bool false)) S1
  | _ => .bad
def fOrV (a b : FE) : FE := fun ρ S => (a ρ S).bind fun w S1 => match w with
  | .d (.bool true) => .ok (.d (.bool true)) S1
  | .d (.bool false) => b ρ S1
  | _ => .bad
def gNot (w : W) (S : Store) : O := match w with
  | .d (.bool b) => some (.d (.bool (!b)), S)
  | _ => none
theorem i_one {a : Expr} {op : BoolOp} {f : FE} {pos : Pos} (h : PE X a (tF (gx X ct) E f)) : PE X (.BoolOp op [a] pos) (tF (gx X ct) E f) := pe_one h
theorem i_and {a b : Expr} {rest : List Expr} {f g : FE} {pos : Pos} (h : PE X a (tF (gx X ct) E f)) (h2 : PE X (.BoolOp .And (b :: rest) pos) (tF (gx X ct) E g)) : PE X (.BoolOp .And (a :: b :: rest) pos) (tF (gx X ct) E (fAndV f g)) :=
  PEw (pe_and h h2) fun σ H Q ⟨η, ρ, S, rp, er, h⟩ => ⟨η, ρ, S, rp, er, FinR.mono (FinR.bind h) fun v H1 ⟨η1, w, S1, f, rp1, r1, h1⟩ => by
    split at h1
    · cases r1 with | d r1 => cases r1; exact ⟨true, rfl, iteT ⟨η1, ρ, S1, rp1, er.fu f, h1⟩⟩
    · cases r1 with | d r1 => cases r1; exact ⟨false, rfl, iteF (h1 η1 H1 _ (Fu.refl _ _) rp1 (.d (.bool _)))⟩
    · exact h1.elim⟩
theorem i_or {a b : Expr} {rest : List Expr} {f g : FE} {pos : Pos} (h : PE X a (tF (gx X ct) E f)) (h2 : PE X (.BoolOp .Or (b :: rest) pos) (tF (gx X ct) E g)) : PE X (.BoolOp .Or (a :: b :: rest) pos) (tF (gx X ct) E (fOrV f g)) :=
  PEw (pe_or h h2) fun σ H Q ⟨η, ρ, S, rp, er, h⟩ => ⟨η, ρ, S, rp, er, FinR.mono (FinR.bind h) fun v H1 ⟨η1, w, S1, f, rp1, r1, h1⟩ => by
    split at h1
    · cases r1 with | d r1 => cases r1; exact ⟨true, rfl, iteT (h1 η1 H1 _ (Fu.refl _ _) rp1 (.d (.bool _)))⟩
    · cases r1 with | d r1 => cases r1; exact ⟨false, rfl, iteF ⟨η1, ρ, S1, rp1, er.fu f, h1⟩⟩
    · exact h1.elim⟩
theorem i_not {a : Expr} {f : FE} {pos : Pos} (h : PE X a (tF (gx X ct) E f)) : PE X (.UnaryOp .Not a pos) (tF (gx X ct) E (f1 gNot f)) :=
  PEw (pe_not h) (get1 (r := fun x H Q => ∃ c, x = .bl c ∧ Q (.bl (!c)) H) fun x H Q ⟨η, S, wx, rp, rx, q⟩ => by
    unfold gNot at q
    split at q
    · cases rx with | d rx => cases rx; exact ⟨_, rfl, same_val rp (.d (.bool _)) q⟩
    · exact q.elim)
def fIfE (t : FT) (a b : FE) : FE := fun ρ S => (t ρ S).bind fun c S1 => if c = true then a ρ S1 else b ρ S1
theorem i_ife {c a b : Expr} {t : FT} {f g : FE} {pos : Pos} (hc : PT X c (tT (gx X ct) E t)) (ha : PE X a (tF (gx X ct) E f)) (hb : PE X b (tF (gx X ct) E g)) : PE X (.IfExp c a b pos) (tF (gx X ct) E (fIfE t f g)) :=
  PEw (pe_ifExp hc ha hb) fun σ H Q ⟨η, ρ, S, rp, er, h⟩ => ⟨η, ρ, S, rp, er, FinR.mono (FinR.bind h) fun v H1 ⟨η1, w, S1, f, rp1, r1, h1⟩ => by
    obtain rfl : v = w := r1
    by_cases hc : v = true
    · rw [if_pos hc] at h1 ⊢; exact ⟨η1, ρ, S1, rp1, er.fu f, h1⟩
    · rw [if_neg hc] at h1 ⊢; exact ⟨η1, ρ, S1, rp1, er.fu f, h1⟩⟩
/-- a op b op c -/
def fChain (g g' : W → W → Store → O) (a b c : FE) : FE := fun ρ S => (a ρ S).bind fun x S1 => (b ρ S1).bind fun y S2 => (lift (g x y S2)).bind fun k S3 => match k with
  | .d (.bool true) => (c ρ S3).bind fun z S4 => lift (g' y z S4)
  | .d (.bool false) => .ok (.d (.bool false)) S3
  | _ => .bad
theorem i_chain {op op' : CmpOp} {g g' : W → W → Store → O} {a b c : Expr} {fa fb fc : FE} {pos : Pos} (ho : OpR X (compareOp op) (Sim2 X ct g)) (ho' : OpR X (compareOp op') (Sim2 X ct g')) (ha : PE X a (tF (gx X ct) E fa)) (hb : PE X b (tF (gx X ct) E fb)) (hc : PE X c (tF (gx X ct) E fc))
    (hm : lastMarks [op, op'] [b, c] = false := by with_unfolding_all rfl) : PE X (.Compare a [op, op'] [b, c] pos) (tF (gx X ct) E (fChain g g' fa fb fc)) := PEw (pe_chain ho ho' ha hb hc hm) fun σ H Q ⟨η, ρ, S, rp, er, h⟩ =>
  ⟨η, ρ, S, rp, er, FinR.mono (FinR.bind h) fun v H1 ⟨η1, w, S1, f, rp1, r1, h1⟩ =>
    ⟨η1, ρ, S1, rp1, er.fu f, FinR.mono (FinR.bind h1) fun v2 H2 ⟨η2, w2, S2, f2, rp2, r2, h2⟩ => ⟨η2, S2, w, w2, rp2, RepW.fu f2 _ _ r1, r2, by
      have r1' := RepW.fu f2 _ _ r1
      refine FinO.mono (lift_ok (FinR.bind (rel := relW (gx X ct)) h2)) fun z H3 ⟨η3, k, S3, f3, rp3, r3, h3⟩ => ?_
      split at h3
      · cases r3 with
        | d r3 =>
          cases r3
          exact ⟨true, rfl, iteT ⟨η3, ρ, S3, rp3, ((er.fu f).fu f2).fu f3, FinR.mono (FinR.bind h3) fun v4 H4 ⟨η4, w4, S4, f4, rp4, r4, h4⟩ => ⟨η4, S4, w2, w4, rp4, RepW.fu f4 _ _ (RepW.fu f3 _ _ r2), r4, lift_ok h4⟩⟩⟩
      · cases r3 with
        | d r3 =>
          cases r3
          exact ⟨false, rfl, iteF (h3 η3 H3 _ (Fu.refl _ _) rp3 (.d (.bool _)))⟩
      · exact h3.elim⟩⟩⟩
end
end VI
set_option Elab.async false
set_option linter.all false
set_option maxRecDepth 100000
namespace VI
open PySem PySem.Spec PyProof.Rows L2

/-! what a call hands back, without live objects of its own -/
mutual
def frzW (n : Nat) (S : Store) : W → Option W
  | .d x => some (.d x)
  | .fro x => some (.fro x)
  | .loc l => if l < n then some (.loc l) else match S[l]? with
    | some (.lst ds) => some (.d (.list ds))
    | some (.dK kvs) => some (.d (.dict ((.bool true, .none) :: kvs.map fun p => (keyD p.1, p.2))))
    | _ => none
  | .tp ws => (frzWs n S ws).map mkT
def frzWs (n : Nat) (S : Store) : List W → Option (List W)
  | [] => some []
  | w :: ws => match frzW n S w, frzWs n S ws with
    | some w', some ws' => some (w' :: ws')
    | _, _ => none
end
def frz (n : Nat) (r : R W) : R W := match r with
  | .ok w S => match frzW n S w with
    | some w' => .ok w' (S.take n)
    | none => .bad
  | .exc c fs S => match frzWs n S (fs.map (·.2)) with
    | some ws => .exc c ((fs.map (·.1)).zip ws) (S.take n)
    | none => .bad
  | .bad => .bad
section
variable {K : PySem.W.Frag} {η η' : List Addr} {H H' : Hp} {S S' : Store}
mutual
theorem RepD.sub' (h : ∀ a ∈ η, a ∈ η') : ∀ {x : PyData} {v : V}, RepD K η' H x v → RepD K η H x v
  | _, _, .none => .none
  | _, _, .bool _ => .bool _
  | _, _, .int _ => .int _
  | _, _, .str _ => .str _
  | _, _, .list h1 h2 h3 => .list h1 (fun m => h2 (h _ m)) (RepDs.sub' h h3)
  | _, _, .tuple h1 h2 => .tuple h1 (RepDs.sub' h h2)
  | _, _, .dct h1 h2 => .dct h1 (fun m => h2 (h _ m))
  | _, _, .own h1 h2 h3 => .own h1 (fun m => h2 (h _ m)) h3
  | _, _, .dctE h1 h2 h3 h4 => .dctE h1 (fun m => h2 (h _ m)) h3 (RepDs.sub' h h4)
  | _, _, .ownE h1 h2 h3 h4 h5 h6 => .ownE h1 h2 h3 (fun m => h4 (h _ m)) (fun m => h5 (h _ m)) h6
theorem RepDs.sub' (h : ∀ a ∈ η, a ∈ η') : ∀ {xs : List PyData} {vs : List V}, RepDs K η' H xs vs → RepDs K η H xs vs
  | _, _, .nil => .nil
  | _, _, .cons h1 h2 => .cons (RepD.sub' h h1) (RepDs.sub' h h2)
end
theorem RepD.sub (h : ∀ a ∈ η, a ∈ η') (x : PyData) (v : V) (r : RepD K η' H x v) : RepD K η H x v := RepD.sub' h r
theorem RepDs.sub (h : ∀ a ∈ η, a ∈ η') (x : List PyData) (v : List V) (r : RepDs K η' H x v) : RepDs K η H x v := RepDs.sub' h r
mutual
theorem RepW.low : ∀ {w : W} {v : V}, RepW K (η ++ η') H w v → locsB η.length w = true → RepW K η H w v
  | _, _, .d h, _ => .d (RepD.sub (fun a m => List.mem_append_left _ m) _ _ h)
  | .loc l, _, .loc h, e => .loc (by
    have hl : l < η.length := of_decide_eq_true e
    rw [List.getElem?_append_left hl] at h
    exact h)
  | _, _, .tp h1 h2, e => .tp h1 (RepWs.low h2 e)
  | _, _, .fro h1 h2, _ => .fro h1 (RepDs.sub (fun a m => List.mem_append_left _ m) _ _ h2)
theorem RepWs.low : ∀ {w : List W} {v : List V}, RepWs K (η ++ η') H w v → locsBs η.length w = true → RepWs K η H w v
  | _, _, .nil, _ => .nil
  | _, _, .cons h1 h2, e => by
    rw [locsBs, Bool.and_eq_true] at e
    exact .cons (RepW.low h1 e.1) (RepWs.low h2 e.2)
end
mutual
theorem locsB_le {n m : Nat} (h : n ≤ m) : ∀ w : W, locsB n w = true → locsB m w = true
  | .d _, _ => rfl
  | .fro _, _ => rfl
  | .loc l, e => decide_eq_true (Nat.lt_of_lt_of_le (of_decide_eq_true e) h)
  | .tp ws, e => locsBs_le h ws e
theorem locsBs_le {n m : Nat} (h : n ≤ m) : ∀ w : List W, locsBs n w = true → locsBs m w = true
  | [], _ => rfl
  | w :: ws, e => by
    rw [locsBs, Bool.and_eq_true] at e
    rw [locsBs, locsB_le h w e.1, locsBs_le h ws e.2]
    rfl
end
theorem keyD_map {kvs : List (Key × PyData)} {vs : List (Key × V)} (e : kvs.map (·.1) = vs.map (·.1)) : (kvs.map fun p => (keyD p.1, p.2)).map (·.1) = vs.map fun p => keyD p.1 := by
  have := congrArg (List.map keyD) e
  rw [List.map_map, List.map_map] at this
  rw [List.map_map]
  exact this
theorem RepWs.mk {a : Addr} {ws : List W} {vs : List V} (ha : SqT K H a vs) (r : RepWs K η H ws vs) : RepW K η H (mkT ws) (.ref a) := by
  unfold mkT
  cases q : datas ws with
  | some ds => exact .d (.tuple ha (datas_ok q r))
  | none => exact .tp ha r
mutual
theorem frzW_ok (rp : Rp K (η ++ η') H S) : ∀ (w w' : W) (v : V), frzW η.length S w = some w' → RepW K (η ++ η') H w v → RepW K η H w' v
  | .d x, w', v, e, r => by cases e; cases r with | d r => exact .d (RepD.sub (fun a m => List.mem_append_left _ m) _ _ r)
  | .fro x, w', v, e, r => by cases e; cases r with | fro h1 h2 => exact .fro h1 (RepDs.sub (fun a m => List.mem_append_left _ m) _ _ h2)
  | .loc l, w', v, e, r => by
    cases r with
    | loc r =>
      rw [frzW] at e
      by_cases hl : l < η.length
      · rw [if_pos hl] at e
        cases e
        rw [List.getElem?_append_left hl] at r
        exact .loc r
      · rw [if_neg hl] at e
        cases q : S[l]? with
        | none => rw [q] at e; cases e
        | some o =>
          rw [q] at e
          cases o with
          | lst ds =>
            cases e
            obtain ⟨vs, h1, h2⟩ := rp.all _ _ _ r q
            refine .d (.list h1 (fun m => ?_) (RepDs.sub (fun a m => List.mem_append_left _ m) _ _ h2))
            obtain ⟨j, hj, ej⟩ := List.getElem_of_mem m
            have := nodup_get rp.nd r (show (η ++ η')[j]? = _ by rw [List.getElem?_append_left hj, List.getElem?_eq_getElem hj, ej])
            omega
          | dK kvs =>
            cases e
            obtain ⟨vs, h1, h2, h3⟩ := rp.all _ _ _ r q
            refine .d (.dctE h1 (fun m => ?_) (keyD_map h2) ?_)
            · obtain ⟨j, hj, ej⟩ := List.getElem_of_mem m
              have := nodup_get rp.nd r (show (η ++ η')[j]? = _ by rw [List.getElem?_append_left hj, List.getElem?_eq_getElem hj, ej])
              omega
            · have e : (kvs.map fun p => (keyD p.1, p.2)).map (·.2) = kvs.map (·.2) := by rw [List.map_map]; rfl
              rw [e]
              exact RepDs.sub (fun a m => List.mem_append_left _ m) _ _ h3
          | dT _ => cases e
          | ob _ _ => cases e
  | .tp ws, w', v, e, r => by
    cases r with
    | tp h1 h2 =>
      rw [frzW] at e
      cases q : frzWs η.length S ws with
      | none => rw [q] at e; cases e
      | some ws' => rw [q] at e; cases e; exact RepWs.mk h1 (frzWs_ok rp ws ws' _ q h2)
theorem frzWs_ok (rp : Rp K (η ++ η') H S) : ∀ (ws ws' : List W) (vs : List V), frzWs η.length S ws = some ws' → RepWs K (η ++ η') H ws vs → RepWs K η H ws' vs
  | [], ws', vs, e, r => by cases e; cases r; exact .nil
  | w :: ws, ws', vs, e, r => by
    cases r with
    | cons h1 h2 =>
      rw [frzWs] at e
      split at e
      · rename_i a b e1 e2
        cases e
        exact .cons (frzW_ok rp w a _ e1 h1) (frzWs_ok rp ws b _ e2 h2)
      · cases e
end
theorem frzWs_length : ∀ {n : Nat} {S : Store} {ws ws' : List W}, frzWs n S ws = some ws' → ws'.length = ws.length
  | n, S, [], ws', e => by cases e; rfl
  | n, S, w :: ws, ws', e => by
    rw [frzWs] at e
    split at e
    · rename_i a b e1 e2
      cases e
      rw [List.length_cons, List.length_cons, frzWs_length e2]
    · cases e
theorem Rp.cut (rp : Rp K (η ++ η') H S) : Rp K η H (S.take η.length) := by
  have hl : η.length ≤ S.length := by rw [← rp.len, List.length_append]; omega
  have wf : ∀ (l : Nat) (o : SO), (S.take η.length)[l]? = some o → WfO l o := fun l o h2 => by
    have hl1 : l < η.length := by
      have := (List.getElem?_eq_some_iff.mp h2).1
      rw [List.length_take] at this
      omega
    rw [List.getElem?_take_of_lt hl1] at h2
    exact rp.wf l o h2
  refine ⟨by rw [List.length_take]; omega, (List.nodup_append.mp rp.nd).1, fun l a o h1 h2 => ?_, wf⟩
  have hl1 : l < η.length := (List.getElem?_eq_some_iff.mp h1).1
  rw [List.getElem?_take_of_lt hl1] at h2
  have r := rp.all l a o (by rw [List.getElem?_append_left hl1]; exact h1) h2
  have sub : ∀ a ∈ η, a ∈ η ++ η' := fun a m => List.mem_append_left _ m
  cases o with
  | lst ds => obtain ⟨vs, e, r⟩ := r; exact ⟨vs, e, RepDs.sub sub _ _ r⟩
  | dK kvs => obtain ⟨vs, e, e2, r⟩ := r; exact ⟨vs, e, e2, RepDs.sub sub _ _ r⟩
  | dT kvs => obtain ⟨vs, e, e2, r⟩ := r; exact ⟨vs, e, e2, RepDs.sub sub _ _ r⟩
  | ob nm fs =>
    obtain ⟨dx, vs, e, e2, r⟩ := r
    exact ⟨dx, vs, e, e2, RepWs.low r (locsBs_le (Nat.le_of_lt hl1) _ (rp.wf l _ h2))⟩
theorem Fu.cut (f : Fu η H (η ++ η') H') : Fu η H η H' := ⟨⟨[], by simp⟩, fun a h => .inl h, f.tk, f.tp, f.fz, f.ls⟩
theorem FinR.frz {ct : Nat → Option Addr} {Z : XK} {r : R W} {Q : VK} (rp0 : Rp K η H S) (h : FinR ⟨K, ct⟩ (relW ⟨K, ct⟩) Z η H (VI.frz S.length r) Q) : FinR ⟨K, ct⟩ (relW ⟨K, ct⟩) Z η H r Q := by
  cases r with
  | bad => exact h
  | ok w S' =>
    intro η2 H2 v f rp r
    obtain ⟨e, rfl⟩ := f.px
    simp only [VI.frz] at h
    rw [← rp0.len] at h
    cases q : frzW η.length S' w with
    | none => rw [q] at h; exact h.elim
    | some w' =>
      rw [q] at h
      exact h η H2 v f.cut rp.cut (frzW_ok rp w w' v q r)
  | exc c fs S' =>
    intro η2 H2 C d vs f rp hc hd hf
    obtain ⟨e, rfl⟩ := f.px
    simp only [VI.frz] at h
    rw [← rp0.len] at h
    cases q : frzWs η.length S' (fs.map (·.2)) with
    | none => rw [q] at h; exact h.elim
    | some ws =>
      rw [q] at h
      have hl : ws.length = fs.length := by rw [frzWs_length q, List.length_map]
      refine h η H2 C d vs f.cut rp.cut hc hd ⟨?_, ?_⟩
      · rw [List.map_fst_zip (by rw [List.length_map, hl]; exact Nat.le_refl _)]
        exact hf.1
      · rw [List.map_snd_zip (by rw [List.length_map, hl]; exact Nat.le_refl _)]
        exact frzWs_ok rp _ _ _ q hf.2
end

/-! what a def promises, where nothing is being shown -/
structure FnG (P : Program) (w : World) (K : PySem.W.Frag) (mg : Str → Option Value) (base : Heap) (CX : CXT) (k : Nat) (f : Addr) (fd : FuncData) (ps : List Str) (sp : Sp) : Prop where
  len : ∀ vs H Q E, sp vs H Q E → vs.length = ps.length
  run : ∀ (A : Around) (outer : List Env) (s : Shared) (H : Hp) (args : Args) (us : List Value) (vs : List V) (Q : VK) (E : XK), Room k A → A.guards = some [] → Env0 P w K mg base A outer s H → BindsTo s fd args (ps.zip us) → Vals vs us → sp vs H Q E →
    codeAny (model P w) A (.call (.ref f) args) (CR CX outer P w H s Q E) s
theorem deeper_guards {A : Around} {env : Env} (h : A.guards = some []) : (A.deeper env).guards = some [] := h
def spG (G : Gc) (n : Nat) (g : List W → Store → R W) : Sp := fun vs H Q E => vs.length = n ∧ ∃ η S ws, Rp G.K η H S ∧ RepWs G.K η H ws vs ∧ FinR G (relW G) E η H (g ws S) Q
section
variable {X : Cx} {ct : Nat → Option Addr} {CX : CXT} {k : Nat} {f : Addr} {fd : FuncData} {ps : List Str} {sp : Sp} {Z : XK} {x : Str} {p pos : Pos} {e : Expr} {es : List Expr} {ta : TA}
theorem run_fnG {pins : List (Addr × Obj)} {σ : L2.St} {H : Hp} {s : Shared} {Q : VK} {us : List Value} {vs : List V} (F : FnG X.prog X.w X.K X.mg X.base CX k f fd ps sp) (hr : Room k X.A) (hgd : X.A.guards = some []) (hb : Binds X.K fd ps []) (hx : Passes CX X Z)
    (I : Inv X pins σ H s) (r : Vals vs us) (h : sp vs H Q Z) : wpAny (model X.prog X.w) X.A (call (.ref f) us) (EP X pins σ Q) X.xe s := by
  have hl : (us ++ []).length = ps.length := by rw [List.append_nil, ← r.length]; exact F.len _ _ _ _ h
  have hb' := hb s us I.kIn hl
  rw [List.append_nil] at hb'
  refine wpAny_call (codeAny_mono (F.run X.A X.stack s H ⟨us, []⟩ us vs Q Z hr hgd I.env0 hb' r h) fun r s' hq => ?_)
  cases r with
  | error e => exact hx pins σ H s e s' I hq
  | ok fl =>
    cases fl with
    | ret u => exact I.after hq
    | next => exact False.elim hq
    | brk => exact False.elim hq
    | cont => exact False.elim hq
theorem pe_callG (F : FnG X.prog X.w X.K X.mg X.base CX k f fd ps sp) (hr : Room k X.A) (hgd : X.A.guards = some []) (hg : Gl X x) (hm : X.mg x = some (.ref f)) (hk : PySem.W.keepIn X.K (.ref f) = true) (hb : Binds X.K fd ps []) (hx : Passes CX X Z)
    (ha : PA X (e :: es) ta) (hdb : (x == ("__debug__" : Str)) = false := by decide) (he : starEach (e :: es) X.env = (false, eval e X.env) :: starEach es X.env := by rfl) (hpl : (backTo pos (starEach es X.env)).any (·.1) = false := by rfl) :
    PE X (.Call (.Name x p) (e :: es) [] pos) (fun σ H Q => ta σ H fun vs H1 => sp vs H1 Q Z) := by
  refine ⟨fun pins s σ H Q I h => ?_⟩
  refine wpAny_Call_Name_kw (ld_glob I hg hm ?_ hdb)
  refine PySem.W.callWith_K (h₀ := X.base) I.ok.mod.kin hk (thn (ha.run pos pins s σ H _ I h) fun us s1 ⟨vs, H1, I1, r, q⟩ => ⟨I1.kIn, ?_⟩) he hpl
  exact run_fnG F hr hgd hb hx I1 r q
theorem pe_callG0 (F : FnG X.prog X.w X.K X.mg X.base CX k f fd ps sp) (hr : Room k X.A) (hgd : X.A.guards = some []) (hg : Gl X x) (hm : X.mg x = some (.ref f)) (hk : PySem.W.keepIn X.K (.ref f) = true) (hb : Binds X.K fd ps []) (hx : Passes CX X Z)
    (hdb : (x == ("__debug__" : Str)) = false := by decide) : PE X (.Call (.Name x p) [] [] pos) (fun σ H Q => sp [] H Q Z) := by
  refine ⟨fun pins s σ H Q I h => ?_⟩
  refine wpAny_Call_Name_kw (ld_glob I hg hm ?_ hdb)
  exact PySem.W.callWith_K0 I.kIn hk (run_fnG (us := []) F hr hgd hb hx I .nil h)
/-- a call whose live objects end -/
def fCall (n : Nat) (g : List W → Store → R W) (a : FA) : FE := fun ρ S => (a ρ S).bind fun ws S1 => if ws.length = n then frz S1.length (g ws S1) else .bad
/-- .. whose live objects go on -/
def fCallL (n : Nat) (g : List W → Store → R W) (a : FA) : FE := fun ρ S => (a ρ S).bind fun ws S1 => if ws.length = n then g ws S1 else .bad
variable {n : Nat} {g : List W → Store → R W} {fa : FA}
theorem i_callL (F : FnG X.prog X.w X.K X.mg X.base CX k f fd ps (spG (gx X ct) n g)) (hr : Room k X.A) (hgd : X.A.guards = some []) (hg : Gl X x) (hm : X.mg x = some (.ref f)) (hk : PySem.W.keepIn X.K (.ref f) = true) (hb : Binds X.K fd ps []) (hx : Passes CX X Z)
    (ha : PA X (e :: es) (tA (gx X ct) (fun _ => Z) fa)) (hdb : (x == ("__debug__" : Str)) = false := by decide) (he : starEach (e :: es) X.env = (false, eval e X.env) :: starEach es X.env := by rfl) (hpl : (backTo pos (starEach es X.env)).any (·.1) = false := by rfl) :
    PE X (.Call (.Name x p) (e :: es) [] pos) (tF (gx X ct) (fun _ => Z) (fCallL n g fa)) := PEw (pe_callG F hr hgd hg hm hk hb hx ha hdb he hpl) fun σ H Q ⟨η, ρ, S, rp, er, h⟩ =>
  ⟨η, ρ, S, rp, er, FinR.mono (FinR.bind h) fun v H1 ⟨η1, ws, S1, f1, rp1, r1, h1⟩ => by
    by_cases hn : ws.length = n
    · rw [if_pos hn] at h1
      exact ⟨by rw [← r1.length]; exact hn, η1, S1, ws, rp1, r1, h1⟩
    · rw [if_neg hn] at h1
      exact h1.elim⟩
theorem i_call (F : FnG X.prog X.w X.K X.mg X.base CX k f fd ps (spG (gx X ct) n g)) (hr : Room k X.A) (hgd : X.A.guards = some []) (hg : Gl X x) (hm : X.mg x = some (.ref f)) (hk : PySem.W.keepIn X.K (.ref f) = true) (hb : Binds X.K fd ps []) (hx : Passes CX X Z)
    (ha : PA X (e :: es) (tA (gx X ct) (fun _ => Z) fa)) (hdb : (x == ("__debug__" : Str)) = false := by decide) (he : starEach (e :: es) X.env = (false, eval e X.env) :: starEach es X.env := by rfl) (hpl : (backTo pos (starEach es X.env)).any (·.1) = false := by rfl) :
    PE X (.Call (.Name x p) (e :: es) [] pos) (tF (gx X ct) (fun _ => Z) (fCall n g fa)) := PEw (pe_callG F hr hgd hg hm hk hb hx ha hdb he hpl) fun σ H Q ⟨η, ρ, S, rp, er, h⟩ =>
  ⟨η, ρ, S, rp, er, FinR.mono (FinR.bind h) fun v H1 ⟨η1, ws, S1, f1, rp1, r1, h1⟩ => by
    by_cases hn : ws.length = n
    · rw [if_pos hn] at h1
      exact ⟨by rw [← r1.length]; exact hn, η1, S1, ws, rp1, r1, FinR.frz rp1 h1⟩
    · rw [if_neg hn] at h1
      exact h1.elim⟩
end

/-! built-in functions and types, called -/
section
variable {X : Cx} {ct : Nat → Option Addr} {E : EX} {x : Str} {p pos : Pos} {e : Expr} {es : List Expr} {id T : String} {g : List W → Store → O} {fa : FA}
theorem i_callB (hc : CallR X (.builtin id) (SimL X ct g)) (hg : Gl X x) (hm : X.mg x = none) (hv : bootBuiltins x = some (.builtin id)) (ha : PA X (e :: es) (tA (gx X ct) E fa)) (hn : x ≠ "__name__" := by decide) (hdb : (x == ("__debug__" : Str)) = false := by decide)
    (he : starEach (e :: es) X.env = (false, eval e X.env) :: starEach es X.env := by rfl) (hpl : (backTo pos (starEach es X.env)).any (·.1) = false := by rfl) : PE X (.Call (.Name x p) (e :: es) [] pos) (tF (gx X ct) E (fL g fa)) :=
  PEw (pe_callB hc hg hm hv ha hn hdb he hpl) (getL fun _ _ _ h => h)
theorem i_callT (hc : CallR X (.type T) (SimL X ct g)) (hg : Gl X x) (hm : X.mg x = none) (hv : bootBuiltins x = some (.type T)) (ha : PA X (e :: es) (tA (gx X ct) E fa)) (hn : x ≠ "__name__" := by decide) (hdb : (x == ("__debug__" : Str)) = false := by decide)
    (he : starEach (e :: es) X.env = (false, eval e X.env) :: starEach es X.env := by rfl) (hpl : (backTo pos (starEach es X.env)).any (·.1) = false := by rfl) : PE X (.Call (.Name x p) (e :: es) [] pos) (tF (gx X ct) E (fL g fa)) :=
  PEw (pe_callTy hc hg hm hv ha hn hdb he hpl) (getL fun _ _ _ h => h)
theorem CallR.fit {f : Value} {r r' : List V → Hp → VK → Prop} (h : CallR X f r) (i : ∀ xs H Q, r' xs H Q → r xs H Q) : CallR X f r' := fun pins s σ H xs us Q I r q => h pins s σ H xs us Q I r (i _ _ _ q)
theorem repWs1 {K : PySem.W.Frag} {η : List Addr} {H : Hp} {w : W} {vs : List V} (r : RepWs K η H [w] vs) : ∃ v, vs = [v] ∧ RepW K η H w v := by
  cases r with
  | cons h1 h2 => cases h2; exact ⟨_, rfl, h1⟩
theorem repWs2 {K : PySem.W.Frag} {η : List Addr} {H : Hp} {w u : W} {vs : List V} (r : RepWs K η H [w, u] vs) : ∃ v v', vs = [v, v'] ∧ RepW K η H w v ∧ RepW K η H u v' := by
  cases r with
  | cons h1 h2 =>
    obtain ⟨v', rfl, h3⟩ := repWs1 h2
    exact ⟨_, _, rfl, h1, h3⟩
def gLen (ws : List W) (S : Store) : O := match ws with
  | [.d (.str y)] => if y.length ≤ lim then some (.d (.int y.length), S) else none
  | [.tp xs] => some (.d (.int xs.length), S)
  | [w] => match asSeq w S with
    | some xs => some (.d (.int xs.length), S)
    | none => none
  | _ => none
theorem c_len : CallR X (.builtin "len") (SimL X ct gLen) := CallR.fit call_len fun xs H Q ⟨η, S, ws, rp, rr, q⟩ => by
  unfold gLen at q
  split at q
  · obtain ⟨v, rfl, r⟩ := repWs1 rr
    cases r with
    | d r =>
      cases r
      split at q
      · rename_i hz
        exact ⟨_, _, rfl, ⟨lim_ok hz, rfl⟩, same_val rp (.d (.int _)) q⟩
      · exact q.elim
  · obtain ⟨v, rfl, r⟩ := repWs1 rr
    cases r with
    | tp h1 h2 => exact ⟨_, _, rfl, .inr ⟨_, h1, rfl⟩, by rw [← h2.length]; exact same_val rp (.d (.int _)) q⟩
  · obtain ⟨v, rfl, r⟩ := repWs1 rr
    split at q
    · rename_i xs e
      obtain ⟨a, vs, rfl, h1, h2⟩ := asSeq_ok e rp r
      refine ⟨_, vs.length, rfl, ?_, by rw [← h2.length]; exact same_val rp (.d (.int _)) q⟩
      rcases h1 with h1 | h1
      · exact .inl ⟨_, h1, rfl⟩
      · exact .inr ⟨_, h1, rfl⟩
    · exact q.elim
  · exact q.elim
/-- list(x): of pure data -/
def gList (ws : List W) (S : Store) : O := match ws with
  | [w] => match asSeq w S with
    | some xs => some (.d (.list xs), S)
    | none => none
  | _ => none
def gListL (ws : List W) (S : Store) : O := match ws with
  | [w] => match asSeq w S with
    | some xs => some (.loc S.length, S ++ [.lst xs])
    | none => none
  | _ => none
theorem c_list : CallR X (.type "list") (SimL X ct gList) := CallR.fit call_list_of fun xs H Q ⟨η, S, ws, rp, rr, q⟩ => by
  unfold gList at q
  split at q
  · obtain ⟨v, rfl, r⟩ := repWs1 rr
    split at q
    · rename_i xs e
      obtain ⟨a, vs, rfl, h1, h2⟩ := asSeq_ok e rp r
      exact ⟨a, vs, rfl, h1, new_list rp h2 q⟩
    · exact q.elim
  · exact q.elim
theorem c_listL : CallR X (.type "list") (SimL X ct gListL) := CallR.fit call_list_of fun xs H Q ⟨η, S, ws, rp, rr, q⟩ => by
  unfold gListL at q
  split at q
  · obtain ⟨v, rfl, r⟩ := repWs1 rr
    split at q
    · rename_i xs e
      obtain ⟨a, vs, rfl, h1, h2⟩ := asSeq_ok e rp r
      exact ⟨a, vs, rfl, h1, new_live rp h2 q⟩
    · exact q.elim
  · exact q.elim
def gTuple (ws : List W) (S : Store) : O := match ws with
  | [.tp xs] => some (.tp xs, S)
  | [w] => match asSeq w S with
    | some xs => some (.d (.tuple xs), S)
    | none => none
  | _ => none
theorem c_tuple : CallR X (.type "tuple") (SimL X ct gTuple) := CallR.fit call_tuple_of fun xs H Q ⟨η, S, ws, rp, rr, q⟩ => by
  unfold gTuple at q
  split at q
  · obtain ⟨v, rfl, r⟩ := repWs1 rr
    cases r with
    | tp h1 h2 => exact ⟨_, _, rfl, .inr ⟨h1, same_val rp (.tp h1 h2) q⟩⟩
  · obtain ⟨v, rfl, r⟩ := repWs1 rr
    split at q
    · rename_i xs e
      obtain ⟨a, vs, rfl, h1, h2⟩ := asSeq_ok e rp r
      rcases h1 with h1 | h1
      · exact ⟨a, vs, rfl, .inl ⟨h1, new_tup rp h2 q⟩⟩
      · exact ⟨a, vs, rfl, .inr ⟨h1, same_val rp (.d (.tuple h1 h2)) q⟩⟩
    · exact q.elim
  · exact q.elim
def gAbs (ws : List W) (S : Store) : O := match ws with
  | [.d (.int i)] => some (.d (.int (if i < 0 then -i else i)), S)
  | _ => none
theorem c_abs : CallR X (.builtin "abs") (SimL X ct gAbs) := CallR.fit call_abs fun xs H Q ⟨η, S, ws, rp, rr, q⟩ => by
  unfold gAbs at q
  split at q
  · obtain ⟨v, rfl, r⟩ := repWs1 rr
    cases r with | d r => cases r; exact ⟨_, rfl, same_val rp (.d (.int _)) q⟩
  · exact q.elim
def gInt (ws : List W) (S : Store) : O := match ws with
  | [.d (.int i)] => some (.d (.int i), S)
  | [.d (.bool b)] => some (.d (.int (if b then 1 else 0)), S)
  | _ => none
theorem c_int : CallR X (.type "int") (SimL X ct gInt) := CallR.fit call_int1 fun xs H Q ⟨η, S, ws, rp, rr, q⟩ => by
  unfold gInt at q
  split at q
  · obtain ⟨v, rfl, r⟩ := repWs1 rr
    cases r with | d r => cases r; exact .inl ⟨_, rfl, same_val rp (.d (.int _)) q⟩
  · obtain ⟨v, rfl, r⟩ := repWs1 rr
    cases r with | d r => cases r; exact .inr ⟨_, rfl, same_val rp (.d (.int _)) q⟩
  · exact q.elim
def gMax2 (ws : List W) (S : Store) : O := match ws with
  | [.d (.int i), .d (.int j)] => some (.d (.int (if j > i then j else i)), S)
  | _ => none
theorem c_max2 (hc : X.calm = true) : CallR X (.builtin "max") (SimL X ct gMax2) := CallR.fit (call_max2 hc) fun xs H Q ⟨η, S, ws, rp, rr, q⟩ => by
  unfold gMax2 at q
  split at q
  · obtain ⟨v, v', rfl, r, r'⟩ := repWs2 rr
    cases r with
    | d r =>
      cases r' with
      | d r' =>
        cases r
        cases r'
        exact ⟨_, _, rfl, same_val rp (.d (.int _)) q⟩
  · exact q.elim
/-- the ints of a list -/
def intsD : List PyData → Option (List Int)
  | [] => some []
  | .int i :: r => (intsD r).map (i :: ·)
  | _ :: _ => none
theorem intsD_ok {K : PySem.W.Frag} {η : List Addr} {H : Hp} : ∀ {ds : List PyData} {vs : List V} {ns : List Int}, intsD ds = some ns → RepDs K η H ds vs → vs = ns.map V.int
  | [], vs, ns, e, r => by cases e; cases r; rfl
  | .int i :: ds, vs, ns, e, r => by
    cases r with
    | cons h1 h2 =>
      cases h1
      cases q : intsD ds with
      | none => rw [intsD, q] at e; cases e
      | some ms => rw [intsD, q] at e; cases e; rw [intsD_ok q h2]; rfl
  | .none :: _, vs, ns, e, r => by cases e
  | .bool _ :: _, vs, ns, e, r => by cases e
  | .str _ :: _, vs, ns, e, r => by cases e
  | .list _ :: _, vs, ns, e, r => by cases e
  | .tuple _ :: _, vs, ns, e, r => by cases e
  | .dict _ :: _, vs, ns, e, r => by cases e
theorem intsD_map : ∀ ns : List Int, intsD (ns.map PyData.int) = some ns
  | [] => rfl
  | x :: xs => by rw [List.map_cons, intsD, intsD_map xs]; rfl
def asLst (w : W) (S : Store) : Option (List PyData) := match w with
  | .d (.tuple _) => none
  | w => asSeq w S
theorem asLst_ok {K : PySem.W.Frag} {η : List Addr} {H : Hp} {S : Store} {w : W} {v : V} {xs : List PyData} (e : asLst w S = some xs) (rp : Rp K η H S) (r : RepW K η H w v) : ∃ a vs, v = .ref a ∧ SqL K H a vs ∧ RepDs K η H xs vs := by
  unfold asLst at e
  split at e
  · cases e
  · rename_i n
    exact asSeq_list e (fun ys q => n ys q) rp r
def gSum (ws : List W) (S : Store) : O := match ws with
  | [w] => match asLst w S with
    | some xs => match intsD xs with
      | some ns => some (.d (.int ns.sum), S)
      | none => none
    | none => none
  | _ => none
theorem c_sum (hc : X.calm = true) : CallR X (.builtin "sum") (SimL X ct gSum) := CallR.fit (cr_sum hc) fun xs H Q ⟨η, S, ws, rp, rr, q⟩ => by
  unfold gSum at q
  split at q
  · obtain ⟨v, rfl, r⟩ := repWs1 rr
    split at q
    · rename_i xs e
      obtain ⟨a, vs, rfl, h1, h2⟩ := asLst_ok e rp r
      split at q
      · rename_i ns e2
        have := intsD_ok e2 h2
        subst this
        exact ⟨a, ns, rfl, h1, same_val rp (.d (.int _)) q⟩
      · exact q.elim
    · exact q.elim
  · exact q.elim
/-! repr -/
theorem isRef_of {h : Heap} {u : Value} {d : PyData} {as : List Addr} (r : Reads h u d as) : (∃ a, u = .ref a) ∨ (d = .none ∧ u = .none) ∨ (∃ b, d = .bool b ∧ u = .bool b) ∨ (∃ i t, d = .int i ∧ u = .int i t) ∨ ∃ x t, d = .str x ∧ u = .str x t := by
  cases r with
  | none => exact .inr (.inl ⟨rfl, rfl⟩)
  | bool b => exact .inr (.inr (.inl ⟨b, rfl, rfl⟩))
  | int i t => exact .inr (.inr (.inr (.inl ⟨i, t, rfl, rfl⟩)))
  | str x t => exact .inr (.inr (.inr (.inr ⟨x, t, rfl, rfl⟩)))
  | list _ _ _ _ => exact .inl ⟨_, rfl⟩
  | tuple _ _ _ _ => exact .inl ⟨_, rfl⟩
  | dict _ _ _ _ _ => exact .inl ⟨_, rfl⟩
def noDict (d : PyData) : Bool := !d.hasDict
def gRepr (ws : List W) (S : Store) : O := match ws with
  | [w] => match asD w S with
    | some d => if d.showable = true ∧ d.hasDict = false ∧ d.depth ≤ 64 ∧ d.shown.length ≤ lim then some (.d (.str d.shown), S) else none
    | none => none
  | _ => none
theorem c_repr (hg : X.A.guards = some []) (hu : X.A.units + 65 < cLine) : CallR X (.builtin "repr") (SimL X ct gRepr) := by
  intro pins s σ H xs us Q I rv ⟨η, S, ws, rp, rr, q⟩
  unfold gRepr at q
  split at q
  · obtain ⟨v, rfl, r⟩ := repWs1 rr
    obtain ⟨u, rfl, ru⟩ := vals1 rv
    split at q
    · rename_i d e
      split at q
      · rename_i hz
        obtain ⟨hs, hd, hk, hz⟩ := hz
        have q' : Q (.str d.shown) H := same_val rp (.d (.str _)) q
        obtain ⟨as, rd⟩ := Dp.reads I d v u (asD_ok e hd rp r) ru
        rcases isRef_of rd with ⟨a, rfl⟩ | ⟨rfl, rfl⟩ | ⟨b, rfl, rfl⟩ | ⟨i, t, rfl, rfl⟩ | ⟨x, t, rfl, rfl⟩
        · exact repr_of_reads' rd hs (PyData.noDict_hsm hd) hg (by omega) (fun _ _ e => e) (fun h' u tk hk => ⟨.str d.shown, H, I.kept hk, ⟨_, rfl⟩, q'⟩) (lim_ok hz)
        · exact PySem.P.repr_of_none ⟨.str (PyData.shown .none), H, I.tok _, ⟨_, rfl⟩, q'⟩
        · exact PySem.P.repr_of_bool ⟨.str (PyData.shown (.bool b)), H, I.tok _, ⟨_, by cases b <;> rfl⟩, q'⟩
        · exact PySem.P.repr_of_int (of_decide_eq_true hs) ⟨.str (PyData.shown (.int i)), H, I.tok _, ⟨_, rfl⟩, q'⟩
        · exact PySem.P.repr_of_str ⟨.str (PyData.shown (.str x)), H, I.tok _, ⟨_, rfl⟩, q'⟩ (lim_ok hz)
      · exact q.elim
    · exact q.elim
  · exact q.elim
end
end VI
set_option Elab.async false
set_option linter.all false
set_option maxRecDepth 100000
namespace VI
open PySem PySem.Spec PyProof.Rows L2

/-! targets -/
abbrev FG := W → Rho → Option Rho
abbrev FGs := List W → Rho → Option Rho
def tG (G : Gc) (g : FG) : TG := fun v σ H Q => ∃ η ρ w ρ', RepW G.K η H w v ∧ ERep G.K η H ρ σ ∧ g w ρ = some ρ' ∧ ∀ σ', ERep G.K η H ρ' σ' → Q σ' H
def tGs (G : Gc) (g : FGs) : TGs := fun vs σ H Q => ∃ η ρ ws ρ', RepWs G.K η H ws vs ∧ ERep G.K η H ρ σ ∧ g ws ρ = some ρ' ∧ ∀ σ', ERep G.K η H ρ' σ' → Q σ' H
theorem PGw {X : Cx} {e : Expr} {t t' : TG} (h : PG X e t) (i : ∀ v σ H Q, t' v σ H Q → t v σ H Q) : PG X e t' := ⟨fun pins s σ H v u Q I r q => h.run pins s σ H v u Q I r (i v σ H Q q)⟩
theorem PGsw {X : Cx} {e : List Expr} {t t' : TGs} (h : PGs X e t) (i : ∀ v σ H Q, t' v σ H Q → t v σ H Q) : PGs X e t' := ⟨fun pins s σ H v u Q I r q => h.run pins s σ H v u Q I r (i v σ H Q q)⟩
def gtName (i : Nat) : FG := fun w ρ => some (ρ.set i (some w))
def gtNil : FGs := fun ws ρ => match ws with
  | [] => some ρ
  | _ => none
def gtCons (g : FG) (r : FGs) : FGs := fun ws ρ => match ws with
  | w :: ws => match g w ρ with
    | some ρ1 => r ws ρ1
    | none => none
  | [] => none
def gtTup (n : Nat) (r : FGs) : FG := fun w ρ => match asTW w with
  | some ws => if ws.length = n then r ws ρ else none
  | none => none
section
variable {X : Cx} {ct : Nat → Option Addr} {E : EX}
theorem g_name (i : Nat) {x : Str} {pos : Pos} (hN : X.N.Nodup) (hi : X.N[i]? = some x := by rfl) (hx : Loc X.env.scope x := by first | exact Or.inl rfl | exact Or.inr rfl) (hf : X.fn x = true ∨ X.env.scope.names.lookup x = some .local := by first | exact .inl rfl | exact .inr rfl) :
    PG X (.Name x pos) (tG (gx X ct) (gtName i)) := PGw (pg_name hN hi hx hf) fun v σ H Q ⟨η, ρ, w, ρ', r, er, e, h⟩ => by
  cases e
  exact h _ (er.set r)
theorem gs_nil : PGs X [] (tGs (gx X ct) gtNil) := PGsw pgs_nil fun v σ H Q ⟨η, ρ, w, ρ', r, er, e, h⟩ => by
  unfold gtNil at e
  split at e
  · cases e
    cases r
    exact ⟨rfl, h _ er⟩
  · cases e
theorem gs_cons {e : Expr} {es : List Expr} {g : FG} {gs : FGs} (h1 : PG X e (tG (gx X ct) g)) (h2 : PGs X es (tGs (gx X ct) gs)) (hs : (assignEach (e :: es) X.env).map (·.2) = assign e X.env :: (assignEach es X.env).map (·.2) := by rfl) :
    PGs X (e :: es) (tGs (gx X ct) (gtCons g gs)) := PGsw (pgs_cons h1 h2 hs) fun v σ H Q ⟨η, ρ, w, ρ', r, er, e, h⟩ => by
  unfold gtCons at e
  split at e
  · rename_i w0 ws
    cases r with
    | cons r1 r2 =>
      split at e
      · rename_i ρ1 e1
        exact ⟨_, _, rfl, η, ρ, w0, ρ1, r1, er, e1, fun σ1 er1 => ⟨η, ρ1, ws, ρ', r2, er1, e, h⟩⟩
      · cases e
  · cases e
theorem g_tup {es : List Expr} {k n : Nat} {pos : Pos} {gs : FGs} (hc : X.calm = true) (h : PGs X es (tGs (gx X ct) gs)) (hn : (assignEach es X.env).length = n := by rfl) (hst : (assignEach es X.env).findIdx? (·.1) = none := by rfl) :
    PG X (.Tuple es k pos) (tG (gx X ct) (gtTup n gs)) := PGw (pg_tup hc h hn hst) fun v σ H Q ⟨η, ρ, w, ρ', r, er, e, h⟩ => by
  unfold gtTup at e
  split at e
  · rename_i ws e1
    obtain ⟨a, vs, rfl, h1, h2⟩ := asTW_ok e1 r
    split at e
    · rename_i hl
      exact ⟨a, vs, rfl, h1, by rw [← h2.length]; exact hl, η, ρ, ws, ρ', h2, er, e, h⟩
    · cases e
  · cases e

/-! small statements -/
def fNext : FS := fun ρ S => .next ρ S
def fSeq (a b : FS) : FS := fun ρ S => match a ρ S with
  | .next ρ1 S1 => b ρ1 S1
  | r => r
theorem s_nil : PSs X [] (tS (gx X ct) E fNext) := PSsw pss_nil fun D σ H ⟨η, ρ, S, rp, er, h⟩ => h η H σ (Fu.refl _ _) rp er
theorem s_one {st : Stmt} {f : FS} (h : PS X st (tS (gx X ct) E f)) : PSs X [st] (tS (gx X ct) E f) := pss_one h
theorem s_cons {st : Stmt} {rest : List Stmt} {f g : FS} (h : PS X st (tS (gx X ct) E f)) (h2 : PSs X rest (tS (gx X ct) E g)) : PSs X (st :: rest) (tS (gx X ct) E (fSeq f g)) := PSsw (pss_cons h h2) fun D σ H ⟨η, ρ, S, rp, er, h⟩ => by
  refine ⟨η, ρ, S, rp, er, ?_⟩
  unfold fSeq at h
  cases e : f ρ S with
  | next ρ1 S1 => rw [e] at h; exact fun η1 H1 σ1 f1 rp1 er1 => ⟨η1, ρ1, S1, rp1, er1, FinS.fu f1 h⟩
  | ret w S1 => rw [e] at h; exact h
  | brk ρ1 S1 => rw [e] at h; exact h
  | cnt ρ1 S1 => rw [e] at h; exact h
  | exc c fs ρ1 S1 => rw [e] at h; exact h
  | bad => rw [e] at h; exact h
def fBrk : FS := fun ρ S => .brk ρ S
def fCnt : FS := fun ρ S => .cnt ρ S
theorem s_pass {pos : Pos} : PS X (.Pass pos) (tS (gx X ct) E fNext) := PSw ps_pass fun D σ H ⟨η, ρ, S, rp, er, h⟩ => h η H σ (Fu.refl _ _) rp er
theorem s_brk {pos : Pos} : PS X (.Break pos) (tS (gx X ct) E fBrk) := PSw ps_break fun D σ H ⟨η, ρ, S, rp, er, h⟩ => h η H σ (Fu.refl _ _) rp er
theorem s_cnt {pos : Pos} : PS X (.Continue pos) (tS (gx X ct) E fCnt) := PSw ps_continue fun D σ H ⟨η, ρ, S, rp, er, h⟩ => h η H σ (Fu.refl _ _) rp er
def fDrop (a : FE) : FS := fun ρ S => toS ρ (a ρ S) fun _ S1 => .next ρ S1
theorem s_expr {e : Expr} {pos : Pos} {f : FE} (he : PE X e (tF (gx X ct) E f)) (hs : swapsWith e none pos.line X.env = pure false := by rfl) : PS X (.Expr e pos) (tS (gx X ct) E (fDrop f)) := PSw (ps_expr he hs) fun D σ H ⟨η, ρ, S, rp, er, h⟩ =>
  ⟨η, ρ, S, rp, er, FinR.mono (FinS.bind er h) fun v H1 ⟨η1, w, S1, f1, rp1, r1, h1⟩ => h1 η1 H1 σ (Fu.refl _ _) rp1 (er.fu f1)⟩
def fRet (a : FE) : FS := fun ρ S => toS ρ (a ρ S) fun w S1 => .ret w S1
theorem s_ret {e : Expr} {pos : Pos} {f : FE} (he : PE X e (tF (gx X ct) E f)) : PS X (.Return (some e) pos) (tS (gx X ct) E (fRet f)) := PSw (ps_ret he) fun D σ H ⟨η, ρ, S, rp, er, h⟩ =>
  ⟨η, ρ, S, rp, er, FinR.mono (FinS.bind er h) fun v H1 ⟨η1, w, S1, f1, rp1, r1, h1⟩ => h1 η1 H1 v (Fu.refl _ _) rp1 r1⟩
def fRetN : FS := fun ρ S => .ret (.d .none) S
theorem s_retN {pos : Pos} : PS X (.Return none pos) (tS (gx X ct) E fRetN) := PSw ps_retN fun D σ H ⟨η, ρ, S, rp, er, h⟩ => h η H .non (Fu.refl _ _) rp (.d .none)
def fIf (c : FT) (a b : FS) : FS := fun ρ S => toS ρ (c ρ S) fun k S1 => if k = true then a ρ S1 else b ρ S1
theorem s_if {c : Expr} {a b : List Stmt} {pos : Pos} {t : FT} {f g : FS} (hc : PT X c (tT (gx X ct) E t)) (ha : PSs X a (tS (gx X ct) E f)) (hb : PSs X b (tS (gx X ct) E g)) : PS X (.If c a b pos) (tS (gx X ct) E (fIf t f g)) :=
  PSw (ps_if hc ha hb) fun D σ H ⟨η, ρ, S, rp, er, h⟩ => ⟨η, ρ, S, rp, er, FinR.mono (FinS.bind (rel := relB) er h) fun v H1 ⟨η1, w, S1, f1, rp1, r1, h1⟩ => by
    obtain rfl : v = w := r1
    by_cases hv : v = true
    · rw [if_pos hv] at h1 ⊢; exact ⟨η1, ρ, S1, rp1, er.fu f1, h1⟩
    · rw [if_neg hv] at h1 ⊢; exact ⟨η1, ρ, S1, rp1, er.fu f1, h1⟩⟩
/-- target = value -/
def fAsg (a : FE) (g : FG) : FS := fun ρ S => toS ρ (a ρ S) fun w S1 => match g w ρ with
  | some ρ1 => .next ρ1 S1
  | none => .bad
theorem asg_key {f : FE} {g : FG} {D : Ends} {σ : L2.St} {H : Hp} (h : tS (gx X ct) E (fAsg f g) D σ H) : tF (gx X ct) E f σ H fun x H1 => tG (gx X ct) g x σ H1 D.nx := by
  obtain ⟨η, ρ, S, rp, er, h⟩ := h
  exact ⟨η, ρ, S, rp, er, FinR.mono (FinS.bind er h) fun v H1 ⟨η1, w, S1, f1, rp1, r1, h1⟩ => by
    split at h1
    · rename_i ρ1 e
      exact ⟨η1, ρ, w, ρ1, r1, er.fu f1, e, fun σ' er' => h1 η1 H1 σ' (Fu.refl _ _) rp1 er'⟩
    · exact h1.elim⟩
theorem s_asg {tg e : Expr} {pos : Pos} {f : FE} {g : FG} (he : PE X e (tF (gx X ct) E f)) (hg : PG X tg (tG (gx X ct) g)) (hs : swapsWithSole [tg] e pos.line X.env = pure false := by rfl) (hw : swappedStores [tg] e X.env = pure none := by rfl)
    (h1 : (assignEach [tg] X.env).map (·.2) = [assign tg X.env] := by rfl) : PS X (.Assign [tg] e pos) (tS (gx X ct) E (fAsg f g)) := PSw (ps_asg he hg hs hw h1) fun D σ H h => asg_key h
theorem s_set (i : Nat) {x : Str} {e : Expr} {pos pos' : Pos} {f : FE} (hN : X.N.Nodup) (he : PE X e (tF (gx X ct) E f)) (hi : X.N[i]? = some x := by rfl) (hx : Loc X.env.scope x := by first | exact Or.inl rfl | exact Or.inr rfl) (hs : swapsWith e (some (.Name x pos')) pos.line X.env = pure false := by rfl)
    (hf : X.fn x = true ∨ X.env.scope.names.lookup x = some .local := by first | exact .inl rfl | exact .inr rfl) : PS X (.Assign [.Name x pos'] e pos) (tS (gx X ct) E (fAsg f (gtName i))) := PSw (ps_set hN hi hx he hs hf) fun D σ H ⟨η, ρ, S, rp, er, h⟩ =>
  ⟨η, ρ, S, rp, er, FinR.mono (FinS.bind er h) fun v H1 ⟨η1, w, S1, f1, rp1, r1, h1⟩ => h1 η1 H1 _ (Fu.refl _ _) rp1 ((er.fu f1).set r1)⟩
/-- x op= e: + of ints -/
def fAug (i : Nat) (g : W → W → Store → O) (a : FE) : FS := fun ρ S => match ρ[i]? with
  | some (some w) => toS ρ (a ρ S) fun u S1 => match g w u S1 with
    | some (z, S2) => .next (ρ.set i (some z)) S2
    | none => .bad
  | _ => .bad
theorem s_aug (i : Nat) {x : Str} {e : Expr} {op : Operator} {pos pos' : Pos} {g : W → W → Store → O} {f : FE} (hN : X.N.Nodup) (ho : OpR X (inplaceOp op) (Sim2 X ct g)) (he : PE X e (tF (gx X ct) E f)) (hi : X.N[i]? = some x := by rfl) (hx : Loc X.env.scope x := by first | exact Or.inl rfl | exact Or.inr rfl)
    (hf : X.fn x = true ∨ X.env.scope.names.lookup x = some .local := by first | exact .inl rfl | exact .inr rfl) : PS X (.AugAssign (.Name x pos') op e pos) (tS (gx X ct) E (fAug i g f)) := PSw (ps_aug (ti := Sim2 X ct g) hN hi hx he (fun pins s σ H a b v u Q I ra rb q => ho pins s σ H a b v u Q I ra rb q) hf) fun D σ H ⟨η, ρ, S, rp, er, h⟩ => by
  unfold fAug at h
  split at h
  · rename_i w e
    obtain ⟨v, e1, r⟩ := er.2 i w e
    refine ⟨v, e1, η, ρ, S, rp, er, FinR.mono (FinS.bind er h) fun v2 H1 ⟨η1, u, S1, f1, rp1, r1, h1⟩ => ⟨η1, S1, w, u, rp1, RepW.fu f1 _ _ r, r1, ?_⟩⟩
    cases e2 : g w u S1 with
    | none => rw [e2] at h1; exact h1.elim
    | some p =>
      obtain ⟨z, S2⟩ := p
      rw [e2] at h1
      exact fun η2 H2 z' f2 rp2 r2 => h1 η2 H2 _ f2 rp2 (((er.fu f1).fu f2).set r2)
  · exact h.elim
theorem sim_iaddI : OpR X (inplaceOp .Add) (Sim2 X ct (gI2 (fun _ _ => true) fun i j => .int (i + j))) := sim_i20 iop_add fun _ _ _ _ => .int _
theorem sim_isubI : OpR X (inplaceOp .Sub) (Sim2 X ct (gI2 (fun _ _ => true) fun i j => .int (i - j))) := sim_i20 iop_sub fun _ _ _ _ => .int _
theorem sim_iaddStr : OpR X (inplaceOp .Add) (Sim2 X ct gAddStr) := OpR.fit iop_add_str fun x y H Q ⟨η, S, wx, wy, rp, rx, ry, h⟩ => by
  unfold gAddStr at h
  split at h
  · cases rx with
    | d rx =>
      cases ry with
      | d ry =>
        cases rx
        cases ry
        split at h
        · exact ⟨_, _, rfl, rfl, lim_ok (by assumption), same_val rp (.d (.str _)) h⟩
        · exact h.elim
  · exact h.elim
/-- o[i] = v, a live list -/
def gSet (o i v : W) (S : Store) : Option Store := match o, i, v with
  | .loc l, .d (.int k), .d x => match S[l]? with
    | some (.lst xs) => match ixN xs.length k with
      | some j => some (S.set l (.lst (xs.set j x)))
      | none => none
    | _ => none
  | _, _, _ => none
def fStore (a o i : FE) : FS := fun ρ S => toS ρ (a ρ S) fun v S1 => toS ρ (o ρ S1) fun ov S2 => toS ρ (i ρ S2) fun iv S3 => match gSet ov iv v S3 with
  | some S4 => .next ρ S4
  | none => .bad
theorem set_key {η : List Addr} {H : Hp} {S S' : Store} {wo wi wv : W} {o i v : V} {P : Hp → Prop} (e : gSet wo wi wv S = some S') (rp : Rp X.K η H S) (ro : RepW X.K η H wo o) (ri : RepW X.K η H wi i) (rv : RepW X.K η H wv v)
    (h : ∀ η' H', Fu η H η' H' → Rp X.K η' H' S' → P H') : rSetL o i v H P := by
  unfold gSet at e
  split at e
  · rename_i l k x
    cases ro with
    | loc ro =>
      cases ri with
      | d ri =>
        cases ri
        cases rv with
        | d rv =>
          split at e
          · rename_i xs q
            split at e
            · rename_i j ej
              cases e
              obtain ⟨vs, h1, h2⟩ := rp.all _ _ _ ro q
              refine ⟨_, vs, k, j, rfl, rfl, h1, by rw [← h2.length]; exact ej, ?_⟩
              have m := List.mem_of_getElem? ro
              have f : Fu η H η (upd H _ (.lst (vs.set j v))) := fu_write m h1 trivial
              exact h η _ f (rp.write ro ⟨_, upd_same, RepDs.fu f _ _ (RepDs.set rv j h2)⟩)
            · cases e
          · cases e
  · cases e
theorem s_store {o i e : Expr} {tpos pos : Pos} {fo fi fe : FE} (he : PE X e (tF (gx X ct) E fe)) (ho : PE X o (tF (gx X ct) E fo)) (hi : PE X i (tF (gx X ct) E fi)) (ha : ∀ v, assign (.Subscript o i tpos) X.env v = (do
      let ov ← holding [v] (eval o X.env)
      let iv ← holding [v, ov] (eval i X.env)
      standAt tpos
      holding [v, ov, iv] (setItem ov iv v)
      release [v, ov, iv] []) := by intro _; rfl) (hs : swapsWithSole [.Subscript o i tpos] e pos.line X.env = pure false := by rfl) (hw : swappedStores [.Subscript o i tpos] e X.env = pure none := by rfl)
    (h1 : (assignEach [.Subscript o i tpos] X.env).map (·.2) = [assign (.Subscript o i tpos) X.env] := by rfl) : PS X (.Assign [.Subscript o i tpos] e pos) (tS (gx X ct) E (fStore fe fo fi)) := PSw (ps_asg he (pg_sub ho hi set_list ha) hs hw h1) fun D σ H ⟨η, ρ, S, rp, er, h⟩ =>
  ⟨η, ρ, S, rp, er, FinR.mono (FinS.bind er h) fun v H1 ⟨η1, w, S1, f1, rp1, r1, h1⟩ =>
    ⟨η1, ρ, S1, rp1, er.fu f1, FinR.mono (FinS.bind (er.fu f1) h1) fun v2 H2 ⟨η2, w2, S2, f2, rp2, r2, h2⟩ =>
      ⟨η2, ρ, S2, rp2, (er.fu f1).fu f2, FinR.mono (FinS.bind ((er.fu f1).fu f2) h2) fun v3 H3 ⟨η3, w3, S3, f3, rp3, r3, h3⟩ => by
        split at h3
        · rename_i S4 e4
          exact set_key e4 rp3 (RepW.fu f3 _ _ r2) r3 (RepW.fu f3 _ _ (RepW.fu f2 _ _ r1)) fun η4 H4 f4 rp4 => h3 η4 H4 σ f4 rp4 ((((er.fu f1).fu f2).fu f3).fu f4)
        · exact h3.elim⟩⟩⟩

/-! while -/
def whileL (c : FT) (b : FS) : Nat → Rho → Store → RF
  | 0, _, _ => .bad
  | n + 1, ρ, S => toS ρ (c ρ S) fun k S1 => if k = true then (match b ρ S1 with
    | .next ρ2 S2 => whileL c b n ρ2 S2
    | .cnt ρ2 S2 => whileL c b n ρ2 S2
    | .brk ρ2 S2 => .next ρ2 S2
    | r => r) else .next ρ S1
theorem s_while (n : Nat) {c : Expr} {body : List Stmt} {pos : Pos} {t : FT} {f : FS} (hp : PassesOwn (model X.prog X.w) X.A X.env X.xe) (hc : PT X c (tT (gx X ct) E t)) (hb : PSs X body (tS (gx X ct) E f)) : PS X (.While c body [] pos) (tS (gx X ct) E (whileL t f n)) := PSw (ps_while hp hc hb) fun D σ H ⟨η, ρ, S, rp, er, h⟩ => by
  refine ⟨fun m σ H => ∃ η ρ S, Rp X.K η H S ∧ ERep X.K η H ρ σ ∧ FinS (gx X ct) E η H (whileL t f m ρ S) D, ⟨n, η, ρ, S, rp, er, h⟩, ?_⟩
  rintro m σ H ⟨η, ρ, S, rp, er, h⟩
  cases m with
  | zero => exact h.elim
  | succ m =>
    refine ⟨η, ρ, S, rp, er, FinR.mono (FinS.bind (rel := relB) er h) fun v H1 ⟨η1, k, S1, f1, rp1, r1, h1⟩ => ?_⟩
    obtain rfl : v = k := r1
    by_cases hv : v = true
    · rw [if_pos hv] at h1 ⊢
      refine ⟨fun σ' H' => ∃ η ρ S, Rp X.K η H' S ∧ ERep X.K η H' ρ σ' ∧ FinS (gx X ct) E η H' (whileL t f m ρ S) D, fun σ' H' q => ⟨m, Nat.lt_succ_self m, q⟩, η1, ρ, S1, rp1, er.fu f1, ?_⟩
      cases e : f ρ S1 with
      | next ρ2 S2 => rw [e] at h1; exact fun η2 H2 σ2 f2 rp2 er2 => ⟨η2, ρ2, S2, rp2, er2, FinS.fu f2 h1⟩
      | cnt ρ2 S2 => rw [e] at h1; exact fun η2 H2 σ2 f2 rp2 er2 => ⟨η2, ρ2, S2, rp2, er2, FinS.fu f2 h1⟩
      | brk ρ2 S2 => rw [e] at h1; exact h1
      | ret w S2 => rw [e] at h1; exact h1
      | exc c fs ρ2 S2 => rw [e] at h1; exact h1
      | bad => rw [e] at h1; exact h1
    · rw [if_neg hv] at h1 ⊢
      exact h1 η1 H1 σ (Fu.refl _ _) rp1 (er.fu f1)

end
end VI
set_option Elab.async false
set_option linter.all false
set_option maxRecDepth 100000
namespace VI
open PySem PySem.Spec PyProof.Rows L2

/-! what is walked -/
/-- the members, and what the store must say at each turn -/
structure Wk where
  xs : List W
  ok : Store → Prop
structure WalkOk (K : PySem.W.Frag) (x : Wk) (η : List Addr) (H : Hp) (J : It) : Prop where
  stop : ∀ η' H' S', Fu η H η' H' → Rp K η' H' S' → x.ok S' → J.stop x.xs.length H'
  go : ∀ η' H' S' i w, Fu η H η' H' → Rp K η' H' S' → x.ok S' → x.xs[i]? = some w → J.go i H' ∧ ∀ y H'', J.yld i H' y H'' → Fu η' H' η' H'' ∧ Rp K η' H'' S' ∧ RepW K η' H'' w y
abbrev relJ (G : Gc) : Wk → List Addr → Hp → It → Prop := fun x η H J => WalkOk G.K x η H J
abbrev FK := Rho → Store → R Wk
def tI (G : Gc) (E : EX) (f : FK) : TI := fun σ H Q => ∃ η ρ S, Rp G.K η H S ∧ ERep G.K η H ρ σ ∧ FinR G (relJ G) (E σ) η H (f ρ S) Q
theorem PIw {X : Cx} {tg e : Expr} {t t' : TI} (h : PI X tg e t) (i : ∀ σ H R, t' σ H R → t σ H R) : PI X tg e t' := ⟨fun pins s σ H R I q => h.run pins s σ H R I (i σ H R q)⟩
def seqR {α : Type} (o : Option α) (S : Store) : R α := match o with
  | some ws => .ok ws S
  | none => .bad
theorem seqR_fin {α β : Type} {G : Gc} {Z : XK} {η : List Addr} {H : Hp} {S : Store} {o : Option α} {rel : α → List Addr → Hp → β → Prop} {Q : β → Hp → Prop} (h : FinR G rel Z η H (seqR o S) Q) : ∃ xs, o = some xs ∧ FinR G rel Z η H (.ok xs S) Q := by
  cases o with
  | none => exact h.elim
  | some xs => exact ⟨xs, rfl, h⟩
/-- a list: one that stays, or a live one, which must stay through the turns -/
def wkL (w : W) (S : Store) : Option Wk := match w with
  | .d (.list xs) => some ⟨xs.map W.d, fun _ => True⟩
  | .fro xs => some ⟨xs.map W.d, fun _ => True⟩
  | .loc l => match S[l]? with
    | some (.lst xs) => some ⟨xs.map W.d, fun S' => S'[l]? = some (.lst xs)⟩
    | _ => none
  | _ => none
def wkT (w : W) : Option Wk := (asTW w).map fun xs => ⟨xs, fun _ => True⟩
def fItL (a : FE) : FK := fun ρ S => (a ρ S).bind fun w S1 => seqR (wkL w S1) S1
def fItT (a : FE) : FK := fun ρ S => (a ρ S).bind fun w S1 => seqR (wkT w) S1
/-- a list as it stands, at each turn -/
def StayW (K : PySem.W.Frag) (x : Wk) (η : List Addr) (H : Hp) (T : Hp → List V → Prop) : Prop :=
  ∀ η' H' S', Fu η H η' H' → Rp K η' H' S' → x.ok S' → ∃ vs, T H' vs ∧ RepWs K η' H' x.xs vs
theorem wkL_ok {K : PySem.W.Frag} {η : List Addr} {H : Hp} {S : Store} {w : W} {v : V} {x : Wk} (e : wkL w S = some x) (rp : Rp K η H S) (r : RepW K η H w v) : ∃ a vs, v = .ref a ∧ SqL K H a vs ∧ StayW K x η H (fun H' vs => SqL K H' a vs) := by
  unfold wkL at e
  split at e
  · cases e
    cases r with
    | d r =>
      cases r with
      | list h1 h2 h3 => exact ⟨_, _, rfl, SqL.of h1, fun η' H' S' f rp' _ => ⟨_, SqL.of (f.ls _ _ h2 h1), RepWs.ofD (RepDs.fu f _ _ h3)⟩⟩
  · cases e
    cases r with
    | fro h1 h2 => exact ⟨_, _, rfl, h1.seq, fun η' H' S' f rp' _ => ⟨_, (h1.fu f).seq, RepWs.ofD (RepDs.fu f _ _ h2)⟩⟩
  · split at e
    · rename_i l xs q
      cases e
      cases r with
      | loc r =>
        obtain ⟨vs, h1, h2⟩ := rp.all _ _ _ r q
        refine ⟨_, vs, rfl, SqL.of h1, fun η' H' S' f rp' ok => ?_⟩
        obtain ⟨vs', h1', h2'⟩ := rp'.all _ _ _ (f.get r) ok
        exact ⟨vs', SqL.of h1', RepWs.ofD h2'⟩
    · cases e
  · cases e
theorem wkT_ok {K : PySem.W.Frag} {η : List Addr} {H : Hp} {w : W} {v : V} {x : Wk} (e : wkT w = some x) (r : RepW K η H w v) : ∃ a vs, v = .ref a ∧ SqT K H a vs ∧ StayW K x η H (fun H' vs => SqT K H' a vs) := by
  unfold wkT at e
  cases q : asTW w with
  | none => rw [q] at e; cases e
  | some xs =>
    rw [q] at e
    cases e
    obtain ⟨a, vs, rfl, h1, h2⟩ := asTW_ok q r
    exact ⟨a, vs, rfl, h1, fun η' H' S' f rp' _ => ⟨vs, SqT.fu f h1, RepWs.fu f _ _ h2⟩⟩
section
variable {X : Cx} {ct : Nat → Option Addr} {E : EX} {tg : Expr}
theorem walk_l {K : PySem.W.Frag} {η : List Addr} {H : Hp} {a : Addr} {x : Wk} (st : StayW K x η H (fun H' vs => SqL K H' a vs)) : WalkOk K x η H (Itl K a) where
  stop := fun η' H' S' f rp ok => by
    obtain ⟨vs, h1, h2⟩ := st η' H' S' f rp ok
    exact ⟨vs, h1, by rw [h2.length]; exact Nat.le_refl _⟩
  go := fun η' H' S' i w f rp ok e => by
    obtain ⟨vs, h1, h2⟩ := st η' H' S' f rp ok
    obtain ⟨v, e1, r1⟩ := h2.get e
    refine ⟨⟨vs, v, h1, e1⟩, fun y H'' q => ?_⟩
    obtain ⟨rfl, q⟩ := q
    have e2 := q vs h1
    rw [e1] at e2
    cases e2
    exact ⟨Fu.refl _ _, rp, r1⟩
theorem walk_t {K : PySem.W.Frag} {η : List Addr} {H : Hp} {a : Addr} {x : Wk} (st : StayW K x η H (fun H' vs => SqT K H' a vs)) : WalkOk K x η H (Itt K a) where
  stop := fun η' H' S' f rp ok => by
    obtain ⟨vs, h1, h2⟩ := st η' H' S' f rp ok
    exact ⟨vs, h1, by rw [h2.length]; exact Nat.le_refl _⟩
  go := fun η' H' S' i w f rp ok e => by
    obtain ⟨vs, h1, h2⟩ := st η' H' S' f rp ok
    obtain ⟨v, e1, r1⟩ := h2.get e
    refine ⟨⟨vs, v, h1, e1⟩, fun y H'' q => ?_⟩
    obtain ⟨rfl, q⟩ := q
    have e2 := q vs h1
    rw [e1] at e2
    cases e2
    exact ⟨Fu.refl _ _, rp, r1⟩
theorem w_list {e : Expr} {f : FE} (he : PE X e (tF (gx X ct) E f)) : PI X tg e (tI (gx X ct) E (fItL f)) := PIw (pi_list he) fun σ H R ⟨η, ρ, S, rp, er, h⟩ =>
  ⟨η, ρ, S, rp, er, FinR.mono (FinR.bind (rel := relW (gx X ct)) h) fun v H1 ⟨η1, w, S1, f1, rp1, r1, h1⟩ => by
    obtain ⟨x, e1, h2⟩ := seqR_fin h1
    obtain ⟨a, vs, rfl, hq, st⟩ := wkL_ok e1 rp1 r1
    exact ⟨a, rfl, ⟨vs, hq⟩, h2 η1 H1 _ (Fu.refl _ _) rp1 (walk_l st)⟩⟩
theorem w_tup {e : Expr} {f : FE} (he : PE X e (tF (gx X ct) E f)) : PI X tg e (tI (gx X ct) E (fItT f)) := PIw (pi_tup he) fun σ H R ⟨η, ρ, S, rp, er, h⟩ =>
  ⟨η, ρ, S, rp, er, FinR.mono (FinR.bind (rel := relW (gx X ct)) h) fun v H1 ⟨η1, w, S1, f1, rp1, r1, h1⟩ => by
    obtain ⟨x, e1, h2⟩ := seqR_fin h1
    obtain ⟨a, vs, rfl, hq, st⟩ := wkT_ok e1 r1
    exact ⟨a, rfl, ⟨vs, hq⟩, h2 η1 H1 _ (Fu.refl _ _) rp1 (walk_t st)⟩⟩
/-- lo, lo + 1 .. -/
def rangeW (lo : Int) (n : Nat) : List W := (List.range n).map fun (i : Nat) => W.d (.int (lo + (i : Int)))
theorem rangeW_get {lo : Int} {n i : Nat} {w : W} (e : (rangeW lo n)[i]? = some w) : i < n ∧ w = .d (.int (lo + (i : Int))) := by
  unfold rangeW at e
  rw [List.getElem?_map] at e
  cases q : (List.range n)[i]? with
  | none => rw [q] at e; cases e
  | some j =>
    rw [q] at e
    cases e
    obtain ⟨h1, h2⟩ := List.getElem?_eq_some_iff.mp q
    rw [List.getElem_range] at h2
    rw [List.length_range] at h1
    subst h2
    exact ⟨h1, rfl⟩
theorem walk_r {K : PySem.W.Frag} {η : List Addr} {H : Hp} {lo : Int} {n : Nat} : WalkOk K ⟨rangeW lo n, fun _ => True⟩ η H (Itr lo n) where
  stop := fun η' H' S' f rp ok => by
    show n ≤ (rangeW lo n).length
    unfold rangeW
    rw [List.length_map, List.length_range]
    exact Nat.le_refl _
  go := fun η' H' S' i w f rp ok e => by
    obtain ⟨hi, rfl⟩ := rangeW_get e
    refine ⟨hi, fun x H'' y => ?_⟩
    obtain ⟨rfl, rfl⟩ := y
    exact ⟨Fu.refl _ _, rp, .d (.int _)⟩
/-- lo, lo - 1 .. -/
def downW (lo : Int) (n : Nat) : List W := (List.range n).map fun (i : Nat) => W.d (.int (lo + (i : Int) * -1))
theorem downW_get {lo : Int} {n i : Nat} {w : W} (e : (downW lo n)[i]? = some w) : i < n ∧ w = .d (.int (lo + (i : Int) * -1)) := by
  unfold downW at e
  rw [List.getElem?_map] at e
  cases q : (List.range n)[i]? with
  | none => rw [q] at e; cases e
  | some j =>
    rw [q] at e
    cases e
    obtain ⟨h1, h2⟩ := List.getElem?_eq_some_iff.mp q
    rw [List.getElem_range] at h2
    rw [List.length_range] at h1
    subst h2
    exact ⟨h1, rfl⟩
theorem walk_c {K : PySem.W.Frag} {η : List Addr} {H : Hp} {lo : Int} {n : Nat} : WalkOk K ⟨downW lo n, fun _ => True⟩ η H (Itc lo (-1) n) where
  stop := fun η' H' S' f rp ok => by
    show n ≤ (downW lo n).length
    unfold downW
    rw [List.length_map, List.length_range]
    exact Nat.le_refl _
  go := fun η' H' S' i w f rp ok e => by
    obtain ⟨hi, rfl⟩ := downW_get e
    refine ⟨hi, fun x H'' y => ?_⟩
    obtain ⟨rfl, rfl⟩ := y
    exact ⟨Fu.refl _ _, rp, .d (.int _)⟩
/-- fits 62 bits -/
def fit62 (i : Int) : Bool := decide (-(2 ^ 62) ≤ i) && decide (i < 2 ^ 62)
theorem fit62_ok {i : Int} (h : fit62 i = true) : -(2 ^ 62) ≤ i ∧ i < 2 ^ 62 := by
  unfold fit62 at h
  rw [Bool.and_eq_true, decide_eq_true_eq, decide_eq_true_eq] at h
  exact h
def rng1 (ws : List W) (S : Store) : R Wk := match ws with
  | [.d (.int j)] => if fit62 j = true then .ok ⟨rangeW 0 j.toNat, fun _ => True⟩ S else .bad
  | _ => .bad
def rng2 (ws : List W) (S : Store) : R Wk := match ws with
  | [.d (.int i), .d (.int j)] => if fit62 i = true ∧ fit62 j = true then .ok ⟨rangeW i (j - i).toNat, fun _ => True⟩ S else .bad
  | _ => .bad
def rng3 (ws : List W) (S : Store) : R Wk := match ws with
  | [.d (.int i), .d (.int j), .d (.int c)] => if c = -1 ∧ fit62 i = true ∧ fit62 j = true then .ok ⟨downW i (i - j).toNat, fun _ => True⟩ S else .bad
  | _ => .bad
def fRng (g : List W → Store → R Wk) (a : FA) : FK := fun ρ S => (a ρ S).bind g
theorem repWs3 {K : PySem.W.Frag} {η : List Addr} {H : Hp} {w u t : W} {vs : List V} (r : RepWs K η H [w, u, t] vs) : ∃ v v' v'', vs = [v, v', v''] ∧ RepW K η H w v ∧ RepW K η H u v' ∧ RepW K η H t v'' := by
  cases r with
  | cons h1 h2 =>
    obtain ⟨v', v'', rfl, h3, h4⟩ := repWs2 h2
    exact ⟨_, _, _, rfl, h1, h3, h4⟩
theorem intW {K : PySem.W.Frag} {η : List Addr} {H : Hp} {i : Int} {v : V} (r : RepW K η H (.d (.int i)) v) : v = .int i := by
  cases r with | d r => cases r; rfl
theorem w_range1 {a : Expr} {fa : FA} {p pos : Pos} (hg : Gl X "range") (hm : X.mg "range" = none) (ha : PA X [a] (tA (gx X ct) E fa)) (hs : starEach [a] X.env = [(false, eval a X.env)] := by rfl) : PI X tg (.Call (.Name "range" p) [a] [] pos) (tI (gx X ct) E (fRng rng1 fa)) :=
  PIw (pi_range1 hg hm ha hs) fun σ H R ⟨η, ρ, S, rp, er, h⟩ => ⟨η, ρ, S, rp, er, by
    refine FinR.mono (FinR.bind (rel := relL (gx X ct)) h) fun v H1 ⟨η1, w, S1, f1, rp1, r1, h1⟩ => ?_
    unfold rng1 at h1
    split at h1
    · rename_i j
      split at h1
      · rename_i hj
        obtain ⟨v', rfl, r2⟩ := repWs1 r1
        obtain rfl := intW r2
        exact ⟨j, rfl, (fit62_ok hj).1, (fit62_ok hj).2, h1 η1 H1 _ (Fu.refl _ _) rp1 walk_r⟩
      · exact h1.elim
    · exact h1.elim⟩
theorem w_range2 {a b : Expr} {fa : FA} {p pos : Pos} (hg : Gl X "range") (hm : X.mg "range" = none) (ha : PA X [a, b] (tA (gx X ct) E fa)) (hs : starEach [a, b] X.env = [(false, eval a X.env), (false, eval b X.env)] := by rfl) (hs2 : starEach [b] X.env = [(false, eval b X.env)] := by rfl) : PI X tg (.Call (.Name "range" p) [a, b] [] pos) (tI (gx X ct) E (fRng rng2 fa)) :=
  PIw (pi_range2 hg hm ha hs hs2) fun σ H R ⟨η, ρ, S, rp, er, h⟩ => ⟨η, ρ, S, rp, er, by
    refine FinR.mono (FinR.bind (rel := relL (gx X ct)) h) fun v H1 ⟨η1, w, S1, f1, rp1, r1, h1⟩ => ?_
    unfold rng2 at h1
    split at h1
    · rename_i i j
      split at h1
      · rename_i hj
        obtain ⟨v1, v2, rfl, r2, r3⟩ := repWs2 r1
        obtain rfl := intW r2
        obtain rfl := intW r3
        exact ⟨i, j, rfl, ⟨(fit62_ok hj.1).1, (fit62_ok hj.1).2, (fit62_ok hj.2).1, (fit62_ok hj.2).2⟩, h1 η1 H1 _ (Fu.refl _ _) rp1 walk_r⟩
      · exact h1.elim
    · exact h1.elim⟩
theorem w_range3 {a b c : Expr} {fa : FA} {p pos : Pos} (hg : Gl X "range") (hm : X.mg "range" = none) (ha : PA X [a, b, c] (tA (gx X ct) E fa))
    (hs : starEach [a, b, c] X.env = (false, eval a X.env) :: starEach [b, c] X.env := by rfl) (hpl : (backTo pos (starEach [b, c] X.env)).any (·.1) = false := by rfl) : PI X tg (.Call (.Name "range" p) [a, b, c] [] pos) (tI (gx X ct) E (fRng rng3 fa)) :=
  PIw (pi_range3 hg hm ha hs hpl) fun σ H R ⟨η, ρ, S, rp, er, h⟩ => ⟨η, ρ, S, rp, er, by
    refine FinR.mono (FinR.bind (rel := relL (gx X ct)) h) fun v H1 ⟨η1, w, S1, f1, rp1, r1, h1⟩ => ?_
    unfold rng3 at h1
    split at h1
    · rename_i i j c
      split at h1
      · rename_i hj
        obtain ⟨hc, hi, hj⟩ := hj
        subst hc
        obtain ⟨v1, v2, v3, rfl, r2, r3, r4⟩ := repWs3 r1
        obtain rfl := intW r2
        obtain rfl := intW r3
        obtain rfl := intW r4
        exact ⟨i, j, -1, _, rfl, RgC.neg (fit62_ok hi).1 (fit62_ok hi).2 (fit62_ok hj).1 (fit62_ok hj).2, h1 η1 H1 _ (Fu.refl _ _) rp1 walk_c⟩
      · exact h1.elim
    · exact h1.elim⟩
end
end VI
set_option Elab.async false
set_option linter.all false
set_option maxRecDepth 100000
namespace VI
open PySem PySem.Spec PyProof.Rows L2

/-! two sequences side by side, each a list (true) or a tuple (false) -/
def SqB (K : PySem.W.Frag) (k : Bool) (H : Hp) (a : Addr) (xs : List V) : Prop := match k with
  | true => SqL K H a xs
  | false => SqT K H a xs
def ItB (k : Bool) (h : Heap) (it a : Addr) (i : Nat) : Prop := match k with
  | true => h.IsListIter it a i
  | false => h.IsTupleIter it a i
def CoB (k : Bool) (h : Heap) (a : Addr) (its : Array Value) : Prop := match k with
  | true => h.IsList a its
  | false => h.IsTuple a its
def obB (k : Bool) (a : Addr) : Obj := match k with
  | true => { cls := .type "list_iterator", data := .fields #[.ref a, .int 0 0] }
  | false => { cls := .type "tuple_iterator", data := .fields #[.ref a, .int 0 0] }
theorem begB (k : Bool) (a : Addr) (its : Array Value) : Begins (.ref a) (obB k a) fun h => CoB k h a its := by
  cases k
  · exact begins_tuple a its
  · exact begins_list a its
theorem drwB {P : Program} {w : World} {A : Around} (hh : A.handled = none) (k : Bool) (it a : Addr) (hne : a ≠ it) (its : Array Value) :
    Draws P w A it [it, a] its.size (fun i v => its[i]? = some v) (fun i h => ItB k h it a i ∧ CoB k h a its) := by
  cases k
  · exact .tuple hh it a hne its
  · exact .list hh it a hne its
theorem ItB.new {k : Bool} {h : Heap} {it a : Addr} (e : h.get? it = some (obB k a)) : ItB k h it a 0 := by
  cases k
  · exact ⟨_, e, rfl, rfl⟩
  · exact ⟨_, e, rfl, rfl⟩
theorem ItB.at {k : Bool} {h h' : Heap} {it a : Addr} {i : Nat} (t : ItB k h it a i) (e : ∀ o, h.get? it = some o → h'.get? it = some o) : ItB k h' it a i := by
  cases k
  · obtain ⟨o, q, r⟩ := t
    exact ⟨o, e o q, r⟩
  · obtain ⟨o, q, r⟩ := t
    exact ⟨o, e o q, r⟩
theorem ItB.obj {k : Bool} {h : Heap} {it a : Addr} {i : Nat} (t : ItB k h it a i) : ∃ o, h.get? it = some o ∧ ∀ v, o.data ≠ .cell v := by
  cases k
  · obtain ⟨o, q, _, r⟩ := t
    exact ⟨o, q, fun v z => by rw [r] at z; cases z⟩
  · obtain ⟨o, q, _, r⟩ := t
    exact ⟨o, q, fun v z => by rw [r] at z; cases z⟩
theorem CoB.lt {k : Bool} {h : Heap} {a : Addr} {its : Array Value} (t : CoB k h a its) : a < h.objs.size := by
  cases k
  · obtain ⟨o, q, _⟩ := t
    exact Heap.lt_size q
  · obtain ⟨o, q, _⟩ := t
    exact Heap.lt_size q
theorem SqB.of {X : Cx} {k : Bool} {pins : List (Addr × Obj)} {σ : L2.St} {H : Hp} {s : Shared} {a : Addr} {xs : List V} (I : Inv X pins σ H s) (q : SqB X.K k H a xs) : ∃ its : List Value, Vals xs its ∧ CoB k s.heap a its.toArray := by
  cases k
  · obtain ⟨its, r, p, _⟩ := I.tuple q
    obtain ⟨o, e, c, n, d⟩ := p
    exact ⟨its, r, o, e, c, n, d⟩
  · obtain ⟨its, r, p, _⟩ := I.list q
    exact ⟨its, r, p.isList⟩
theorem SqB.inj {X : Cx} {k : Bool} {pins : List (Addr × Obj)} {σ : L2.St} {H : Hp} {s : Shared} {a : Addr} {xs ys : List V} (I : Inv X pins σ H s) (q : SqB X.K k H a xs) (q' : SqB X.K k H a ys) : xs = ys := by
  cases k
  · exact I.tuple_inj q q'
  · exact I.list_inj q q'
def ItzB (K : PySem.W.Frag) (k1 k2 : Bool) (a b : Addr) : It :=
  ⟨fun i H => ∃ (xs ys : List V) (x y : V), SqB K k1 H a xs ∧ SqB K k2 H b ys ∧ xs[i]? = some x ∧ ys[i]? = some y,
    fun i H v H' => ∃ T x y, v = .ref T ∧ H T = none ∧ H' = upd H T (.tup [x, y]) ∧ (∀ xs, SqB K k1 H a xs → xs[i]? = some x) ∧ ∀ ys, SqB K k2 H b ys → ys[i]? = some y,
    fun i H => ∃ xs ys : List V, SqB K k1 H a xs ∧ SqB K k2 H b ys ∧ i = min xs.length ys.length⟩
/-- where the iterator of a pair stands -/
def AtZ (k1 k2 : Bool) (a b z TI TO i1 i2 : Addr) (i : Nat) (h : Heap) : Prop :=
  IsZip h z TI TO .none ∧ IsTupOf2 h TI (.ref i1) (.ref i2) ∧ (∃ x y, IsTupOf2 h TO x y) ∧ ItB k1 h i1 a i ∧ ItB k2 h i2 b i
theorem mem5 {c z TI TO i1 i2 : Addr} (h : c ∈ [z, TI, TO, i1, i2]) : c = z ∨ c = TI ∨ c = TO ∨ c = i1 ∨ c = i2 := by simpa using h
theorem goZ {X : Cx} {pins : List (Addr × Obj)} {σ : L2.St} {H : Hp} {s : Shared} (I : Inv X pins σ H s) (hc : X.calm = true) {elts : List Expr} {kk : Nat} {tpos : Pos} {k1 k2 : Bool} {a b z TI TO i1 i2 : Addr} (D : ZipSep2 z TI TO i1 i2 [i1, a] [i2, b]) (h1 : a ≠ i1) (h2 : b ≠ i2) (us ws : List Value) :
    GoesN X.prog X.w X.A (.Tuple elts kk tpos) z (z :: TI :: TO :: ([i1, a] ++ [i2, b])) [z, TO, i1, i2] (min us.toArray.size ws.toArray.size) (fun i h₀ v h => ∃ T x y, v = .ref T ∧ h₀.objs.size ≤ T ∧ us.toArray[i]? = some x ∧ ws.toArray[i]? = some y ∧ h.IsTuple T #[x, y])
      (fun i h => IsZip h z TI TO .none ∧ IsTupOf2 h TI (.ref i1) (.ref i2) ∧ (∃ x y, IsTupOf2 h TO x y) ∧ (ItB k1 h i1 a i ∧ CoB k1 h a us.toArray) ∧ ItB k2 h i2 b i ∧ CoB k2 h b ws.toArray) :=
  GoesN.zip2 D (drwB (A := X.A.in1) (I.ok.hd hc) k1 i1 a h1 us.toArray) (drwB (A := X.A.in1) (I.ok.hd hc) k2 i2 b h2 ws.toArray)
theorem turn_zipB {P : Program} {w : World} {K : PySem.W.Frag} {elts : List Expr} {kk : Nat} {tpos : Pos} {k1 k2 : Bool} {a b z TI TO i1 i2 : Addr} (D : ZipSep2 z TI TO i1 i2 [i1, a] [i2, b]) (h1 : a ≠ i1) (h2 : b ≠ i2) :
    Turn P w K (.Tuple elts kk tpos) (ItzB K k1 k2 a b) [z, TI, TO, i1, i2] z (AtZ k1 k2 a b z TI TO i1 i2) where
  mem := by simp
  obj := fun i h st c hc => by
    obtain ⟨hz, hI, ⟨x, y, hO⟩, q1, q2⟩ := st
    rcases mem5 hc with q | q | q | q | q
    · rw [q]; exact ⟨_, hz, fun v q => nomatch q⟩
    · rw [q]; exact ⟨_, hI, fun v q => nomatch q⟩
    · rw [q]; exact ⟨_, hO, fun v q => nomatch q⟩
    · rw [q]; exact q1.obj
    · rw [q]; exact q2.obj
  keep := fun i h h' st k => by
    obtain ⟨hz, hI, ⟨x, y, hO⟩, q1, q2⟩ := st
    exact ⟨k z (by simp) _ hz, k TI (by simp) _ hI, ⟨x, y, k TO (by simp) _ hO⟩, q1.at fun o q => k i1 (by simp) o q, q2.at fun o q => k i2 (by simp) o q⟩
  item := by
    intro X hP hw hK hc i pins s σ H E I hf st hg
    subst hP hw hK
    obtain ⟨xs, ys, x, y, sx, sy, ex, ey⟩ := hg
    obtain ⟨us, rx, cx⟩ := SqB.of I sx
    obtain ⟨ws, ry, cy⟩ := SqB.of I sy
    obtain ⟨u, hu, ru⟩ := rx.get ex
    obtain ⟨t, ht, rt⟩ := ry.get ey
    obtain ⟨lu, eu⟩ := List.getElem?_eq_some_iff.mp hu
    obtain ⟨lt, et⟩ := List.getElem?_eq_some_iff.mp ht
    obtain ⟨hz, hI, hO, q1, q2⟩ := st
    refine (goZ I hc D h1 h2 us ws).goes i s (fun v s2 => ∃ x H', Inv X pins σ H' s2 ∧ RelV x v ∧ (ItzB X.K k1 k2 a b).yld i H x H' ∧ AtZ k1 k2 a b z TI TO i1 i2 (i + 1) s2.heap ∧ ∀ b ∈ [z, TI, TO, i1, i2], H' b = none) E (by rw [List.size_toArray, List.size_toArray]; exact Nat.lt_min.mpr ⟨lu, lt⟩) ⟨hz, hI, hO, ⟨q1, cx⟩, ⟨q2, cy⟩⟩ fun v h' tk yy st' hk htk => ?_
    obtain ⟨T, p, q, rfl, hT, hp, hq, isT⟩ := yy
    obtain ⟨hz', hI', hO', ⟨q1', _⟩, ⟨q2', _⟩⟩ := st'
    have e1 : p = u := by
      have z : us.toArray[i]? = some p := hp
      rw [List.getElem?_toArray, hu] at z
      exact (Option.some.inj z).symm
    have e2 : q = t := by
      have z : ws.toArray[i]? = some q := hq
      rw [List.getElem?_toArray, ht] at z
      exact (Option.some.inj z).symm
    subst e1 e2
    obtain ⟨oT, gT, cT, nT, dT⟩ := isT
    have new : ObjOk X.prog X.w (upd H T (.tup [x, y])) h' T (.tup [x, y]) := ⟨by show 2 ≤ sizeLine; decide, [p, q], .cons ru (.cons rt .nil), ⟨oT, gT, cT, nT, dT⟩⟩
    have I1 : Inv X pins σ (upd H T (.tup [x, y])) { s with heap := h', toks := tk } :=
      I.turnedNew (ch := [z, TI, TO, i1, i2]) (fun c o hb q' => hk c o (fun m => hb (by simp at m ⊢; rcases m with m | m | m | m <;> simp [m])) q') hf hT new
    refine ⟨.ref T, _, I1, rfl, ⟨T, x, y, rfl, I.hok.fresh hT, rfl, fun l hl => by rw [SqB.inj I hl sx]; exact ex, fun l hl => by rw [SqB.inj I hl sy]; exact ey⟩, ⟨hz', hI', hO', q1', q2'⟩, fun c hcm => ?_⟩
    have hlt : c < s.heap.objs.size := by
      obtain ⟨x0, y0, hO⟩ := hO
      rcases mem5 hcm with m | m | m | m | m
      · rw [m]; exact Heap.lt_size hz
      · rw [m]; exact Heap.lt_size hI
      · rw [m]; exact Heap.lt_size hO
      · rw [m]; obtain ⟨_, g, _⟩ := q1.obj; exact Heap.lt_size g
      · rw [m]; obtain ⟨_, g, _⟩ := q2.obj; exact Heap.lt_size g
    rw [upd_ne (Nat.ne_of_lt (Nat.lt_of_lt_of_le hlt hT))]
    exact (hf c hcm).1
  done := by
    intro X hP hw hK hc i pins s σ H E I hf st hg
    subst hP hw hK
    obtain ⟨xs, ys, sx, sy, ei⟩ := hg
    obtain ⟨us, rx, cx⟩ := SqB.of I sx
    obtain ⟨ws, ry, cy⟩ := SqB.of I sy
    obtain ⟨hz, hI, hO, q1, q2⟩ := st
    have en : i = min us.toArray.size ws.toArray.size := by rw [List.size_toArray, List.size_toArray, ← rx.length, ← ry.length]; exact ei
    refine (goZ (elts := elts) (kk := kk) (tpos := tpos) I hc D h1 h2 us ws).stops s (fun s1 => Inv X pins σ H s1) E ⟨hz, hI, hO, ⟨?_, cx⟩, ⟨?_, cy⟩⟩ fun h' tk hk htk => ?_
    · rw [← en]; exact q1
    · rw [← en]; exact q2
    · exact I.turnedL (ch := [z, TI, TO, i1, i2]) (fun c o hb q' => hk c o (fun m => hb (by simp at m ⊢; rcases m with m | m | m | m <;> simp [m])) q') hf
  self := fun A i s Q E st h => wpAny_pyIter_zip st.1 h

def iZipB (K : PySem.W.Frag) (ta : TA) : TI := fun σ H R => ta σ H fun vs H1 => ∃ (k1 k2 : Bool) (a b : Addr) (xs ys : List V), vs = [.ref a, .ref b] ∧ SqB K k1 H1 a xs ∧ SqB K k2 H1 b ys ∧ R (ItzB K k1 k2 a b) H1
theorem pi_zipB {X : Cx} {e e2 : Expr} {ta : TA} {p pos tpos : Pos} {elts : List Expr} {kk : Nat} (hg : Gl X "zip") (hm : X.mg "zip" = none) (ha : PA X [e, e2] ta)
    (hs : starEach [e, e2] X.env = (false, eval e X.env) :: starEach [e2] X.env := by rfl) (hpl : (backTo pos (starEach [e2] X.env)).any (·.1) = false := by rfl) :
    PI X (.Tuple elts kk tpos) (.Call (.Name "zip" p) [e, e2] [] pos) (iZipB X.K ta) := ⟨fun pins s σ H R I h => by
  refine Call_ (ld_blt I hg hm PyProof.Rows.boot_zip (PyProof.Rows.callWith_type1 (thn (ha.run pos pins s σ H _ I h) fun us s1 ⟨vs, H1, I1, r1, q1⟩ => ?_) hs hpl))
  obtain ⟨k1, k2, a, b, xs, ys, rfl, sx, sy, q⟩ := q1
  cases r1 with
  | cons r rr =>
    cases rr with
    | cons r' rr =>
      cases rr
      cases r
      cases r'
      obtain ⟨us, rx, cx⟩ := SqB.of I1 sx
      obtain ⟨ws, ry, cy⟩ := SqB.of I1 sy
      refine zip_begins2 (begB k1 a us.toArray) (begB k2 b ws.toArray) cx cy fun h' hz hI hO g1 g2 hsz hk => wpAny_pyIter_zip hz ?_
      have I2 : Inv X pins σ H1 { s1 with heap := h' } := I1.kept (t' := s1.toks) hk
      refine ⟨s1.heap.objs.size + 4, [s1.heap.objs.size + 4, s1.heap.objs.size + 2, s1.heap.objs.size + 3, s1.heap.objs.size, s1.heap.objs.size + 1], _, _, H1, rfl, I2,
        turn_zipB (zip_sep2 (fun c m => by rw [List.mem_singleton.mp m]; exact cx.lt) fun c m => by rw [List.mem_singleton.mp m]; exact cy.lt) (Nat.ne_of_lt cx.lt) (Nat.ne_of_lt (Nat.lt_succ_of_lt cy.lt)), ⟨hz, hI, ⟨_, _, hO⟩, ItB.new g1, ItB.new g2⟩, fun c m => ?_, q⟩
      have hle : s1.heap.objs.size ≤ c := by
        rcases mem5 m with z | z | z | z | z
        · rw [z]; exact Nat.le_add_right _ _
        · rw [z]; exact Nat.le_add_right _ _
        · rw [z]; exact Nat.le_add_right _ _
        · rw [z]; exact Nat.le_refl _
        · rw [z]; exact Nat.le_add_right _ _
      exact I1.fpOk hle (I1.hok.fresh hle)⟩

/-! enumerate -/
def IteB (K : PySem.W.Frag) (k : Bool) (a : Addr) : It :=
  ⟨fun i H => ∃ (xs : List V) (x : V), SqB K k H a xs ∧ xs[i]? = some x,
    fun i H v H' => ∃ T x, v = .ref T ∧ H T = none ∧ H' = upd H T (.tup [.int (i : Nat), x]) ∧ ∀ xs, SqB K k H a xs → xs[i]? = some x,
    fun i H => ∃ xs : List V, SqB K k H a xs ∧ i = xs.length⟩
def AtE (k : Bool) (a e it : Addr) (i : Nat) (h : Heap) : Prop := (∃ old, IsEnum h e it (0 + (i : Int)) old) ∧ ItB k h it a i
theorem mem2 {c e it : Addr} (h : c ∈ [e, it]) : c = e ∨ c = it := by simpa using h
theorem goE {X : Cx} {pins : List (Addr × Obj)} {σ : L2.St} {H : Hp} {s : Shared} (I : Inv X pins σ H s) (hc : X.calm = true) {elts : List Expr} {kk : Nat} {tpos : Pos} {k : Bool} {a e it : Addr} (h1 : a ≠ it) (h2 : e ≠ it) (h3 : e ≠ a) (us : List Value) :
    GoesN X.prog X.w X.A (.Tuple elts kk tpos) e (e :: [it, a]) [e, it] us.toArray.size (fun i h₀ v h => ∃ T t x, v = .ref T ∧ h₀.objs.size ≤ T ∧ us.toArray[i]? = some x ∧ h.IsTuple T #[.int (0 + (i : Int)) t, x])
      (fun i h => (∃ old, IsEnum h e it (0 + (i : Int)) old) ∧ ItB k h it a i ∧ CoB k h a us.toArray) :=
  GoesN.enumFrom 0 (drwB (A := X.A.in1) (I.ok.hd hc) k it a h1 us.toArray) e h2 (by simp [h2, h3]) (by simp)
theorem turn_enumB {P : Program} {w : World} {K : PySem.W.Frag} {elts : List Expr} {kk : Nat} {tpos : Pos} {k : Bool} {a e it : Addr} (h1 : a ≠ it) (h2 : e ≠ it) (h3 : e ≠ a) :
    Turn P w K (.Tuple elts kk tpos) (IteB K k a) [e, it] e (AtE k a e it) where
  mem := by simp
  obj := fun i h st c hc => by
    obtain ⟨⟨old, he⟩, q1⟩ := st
    rcases mem2 hc with q | q
    · rw [q]; exact ⟨_, he, fun v q => nomatch q⟩
    · rw [q]; exact q1.obj
  keep := fun i h h' st k => by
    obtain ⟨⟨old, he⟩, q1⟩ := st
    exact ⟨⟨old, k e (by simp) _ he⟩, q1.at fun o q => k it (by simp) o q⟩
  item := by
    intro X hP hw hK hc i pins s σ H E I hf st hg
    subst hP hw hK
    obtain ⟨xs, x, sx, ex⟩ := hg
    obtain ⟨us, rx, cx⟩ := SqB.of I sx
    obtain ⟨u, hu, ru⟩ := rx.get ex
    obtain ⟨lu, eu⟩ := List.getElem?_eq_some_iff.mp hu
    obtain ⟨he, q1⟩ := st
    refine (goE I hc h1 h2 h3 us).goes i s (fun v s2 => ∃ x H', Inv X pins σ H' s2 ∧ RelV x v ∧ (IteB X.K k a).yld i H x H' ∧ AtE k a e it (i + 1) s2.heap ∧ ∀ b ∈ [e, it], H' b = none) E (by rw [List.size_toArray]; exact lu) ⟨he, q1, cx⟩ fun v h' tk yy st' hk htk => ?_
    obtain ⟨T, t, p, rfl, hT, hp, isT⟩ := yy
    obtain ⟨he', q1', _⟩ := st'
    have e1 : p = u := by
      have z : us.toArray[i]? = some p := hp
      rw [List.getElem?_toArray, hu] at z
      exact (Option.some.inj z).symm
    subst e1
    obtain ⟨oT, gT, cT, nT, dT⟩ := isT
    have ei : (0 : Int) + (i : Int) = ((i : Nat) : Int) := by omega
    rw [ei] at dT
    have new : ObjOk X.prog X.w (upd H T (.tup [.int (i : Nat), x])) h' T (.tup [.int (i : Nat), x]) := ⟨by show 2 ≤ sizeLine; decide, [.int (i : Nat) t, p], .cons ⟨_, rfl⟩ (.cons ru .nil), ⟨oT, gT, cT, nT, dT⟩⟩
    have I1 : Inv X pins σ (upd H T (.tup [.int (i : Nat), x])) { s with heap := h', toks := tk } :=
      I.turnedNew (ch := [e, it]) (fun c o hb q' => hk c o hb q') hf hT new
    refine ⟨.ref T, _, I1, rfl, ⟨T, x, rfl, I.hok.fresh hT, rfl, fun l hl => by rw [SqB.inj I hl sx]; exact ex⟩, ⟨he', q1'⟩, fun c hcm => ?_⟩
    have hlt : c < s.heap.objs.size := by
      obtain ⟨old, he⟩ := he
      rcases mem2 hcm with m | m
      · rw [m]; exact Heap.lt_size he
      · rw [m]; obtain ⟨_, g, _⟩ := q1.obj; exact Heap.lt_size g
    rw [upd_ne (Nat.ne_of_lt (Nat.lt_of_lt_of_le hlt hT))]
    exact (hf c hcm).1
  done := by
    intro X hP hw hK hc i pins s σ H E I hf st hg
    subst hP hw hK
    obtain ⟨xs, sx, ei⟩ := hg
    obtain ⟨us, rx, cx⟩ := SqB.of I sx
    obtain ⟨he, q1⟩ := st
    have en : i = us.toArray.size := by rw [List.size_toArray, ← rx.length]; exact ei
    subst en
    exact (goE (elts := elts) (kk := kk) (tpos := tpos) I hc h1 h2 h3 us).stops s (fun s1 => Inv X pins σ H s1) E ⟨he, q1, cx⟩ fun h' tk hk htk => I.turnedL (ch := [e, it]) (fun c o hb q' => hk c o hb q') hf
  self := fun A i s Q E st h => let ⟨⟨_, he⟩, _⟩ := st; wpAny_pyIter_enum he h
set_option maxHeartbeats 1000000 in
theorem enum1_meets {u : Value} {ob : Obj} {C : Heap → Prop} (B : Begins u ob C) :
    Meets (Builtin.«enumerate.__new__» ⟨[.type "enumerate", u], []⟩) (fun _ R s => C s.heap ∧ R (.ok (.ret (.ref (s.heap.push ob).objs.size))) { s with heap := (s.heap.push ob).push { cls := .type "enumerate", data := .fields #[.none, .bool false, .ref s.heap.objs.size, rawInt 0, .none, .none] } }) :=
  .of_wp fun prog w A R s ⟨c, hR⟩ => by
    obtain ⟨hp, gn, dr, tk, os⟩ := s
    have sub1 := sub_enumerate
    have it1 : ∀ {A1 : Around} {E1 : Value → Shared → Prop} {Q1 : Value → Shared → Prop}, Q1 (.ref hp.objs.size) ⟨hp.push ob, gn, dr, tk, os⟩ → wpAny (model prog w) A1 (pyIter u) Q1 E1 ⟨hp, gn, dr, tk, os⟩ :=
      fun z => B.iter prog w _ _ ⟨hp, gn, dr, tk, os⟩ _ c z
    wp_walk using it1
    refine wpAny_stack_any fun _ => wpAny_pure ?_
    split
    · rename_i cl _ _ _ _ _
      cases (cl == Value.type "enumerate") <;> (wp_walk using it1; exact ⟨_, rfl, hR⟩)
    · wp_walk using it1
      exact ⟨_, rfl, hR⟩
theorem enum1_begins {P : Program} {w : World} {A : Around} {E : Value → Shared → Prop} {s : Shared} {u : Value} {ob : Obj} {C : Heap → Prop} {Q : Value → Shared → Prop} (B : Begins u ob C) (c : C s.heap)
    (h : ∀ h', IsEnum h' (s.heap.objs.size + 1) s.heap.objs.size 0 .none → h'.get? s.heap.objs.size = some ob → (∀ b o, s.heap.get? b = some o → h'.get? b = some o) → Q (.ref (s.heap.objs.size + 1)) { s with heap := h' }) :
    wpAny (model P w) A (call (.type "enumerate") [u]) Q E s := by
  refine callType_new F.called_enumerate (by decide) (F.typeCall_enumerate_1 _) (F.newCall_enumerate_1 _) (fun obj => F.args_object_init_2 obj _) F.entry_enumerate_new (enum1_meets B) ⟨c, ?_⟩
  have z1 : (s.heap.push ob).objs.size = s.heap.objs.size + 1 := Heap.size_push ..
  show _ ∧ _
  have g := Heap.get?_push_size (s.heap.push ob) (o := { cls := .type "enumerate", data := .fields #[.none, .bool false, .ref s.heap.objs.size, rawInt 0, .none, .none] }) rfl
  rw [z1] at g ⊢
  exact ⟨⟨_, g, rfl⟩, h _ g (Heap.get?_push_of_some _ (Heap.get?_push_size _ B.free)) fun b o x => Heap.get?_push_of_some _ (Heap.get?_push_of_some _ x)⟩
def iEnumB (K : PySem.W.Frag) (ta : TA) : TI := fun σ H R => ta σ H fun vs H1 => ∃ (k : Bool) (a : Addr) (xs : List V), vs = [.ref a] ∧ SqB K k H1 a xs ∧ R (IteB K k a) H1
theorem pi_enumB {X : Cx} {e : Expr} {ta : TA} {p pos tpos : Pos} {elts : List Expr} {kk : Nat} (hg : Gl X "enumerate") (hm : X.mg "enumerate" = none) (ha : PA X [e] ta) (hs : starEach [e] X.env = [(false, eval e X.env)] := by rfl) :
    PI X (.Tuple elts kk tpos) (.Call (.Name "enumerate" p) [e] [] pos) (iEnumB X.K ta) := ⟨fun pins s σ H R I h => by
  refine Call_ (ld_blt I hg hm boot_enumerate (PyProof.Rows.callWith_type1 (thn (ha.run pos pins s σ H _ I h) fun us s1 ⟨vs, H1, I1, r1, q1⟩ => ?_) hs rfl))
  obtain ⟨k, a, xs, rfl, sx, q⟩ := q1
  cases r1 with
  | cons r rr =>
    cases rr
    cases r
    obtain ⟨us, rx, cx⟩ := SqB.of I1 sx
    refine enum1_begins (begB k a us.toArray) cx fun h' he g1 hk => wpAny_pyIter_enum he ?_
    have I2 : Inv X pins σ H1 { s1 with heap := h' } := I1.kept (t' := s1.toks) hk
    refine ⟨s1.heap.objs.size + 1, [s1.heap.objs.size + 1, s1.heap.objs.size], _, _, H1, rfl, I2,
      turn_enumB (Nat.ne_of_lt cx.lt) (Nat.succ_ne_self _) (Nat.ne_of_gt (Nat.lt_succ_of_lt cx.lt)), ⟨⟨.none, he⟩, ItB.new g1⟩, fun c m => ?_, q⟩
    have hle : s1.heap.objs.size ≤ c := by
      rcases mem2 m with z | z
      · rw [z]; exact Nat.le_add_right _ _
      · rw [z]; exact Nat.le_refl _
    exact I1.fpOk hle (I1.hok.fresh hle)⟩

/-! their rules -/
/-- a sequence of either kind, for a walk -/
def wkS (w : W) (S : Store) : Option Wk := match wkL w S with
  | some x => some x
  | none => wkT w
theorem wkS_ok {K : PySem.W.Frag} {η : List Addr} {H : Hp} {S : Store} {w : W} {v : V} {x : Wk} (e : wkS w S = some x) (rp : Rp K η H S) (r : RepW K η H w v) : ∃ (k : Bool) (a : Addr) (vs : List V), v = .ref a ∧ SqB K k H a vs ∧ StayW K x η H (fun H' vs => SqB K k H' a vs) := by
  unfold wkS at e
  split at e
  · rename_i y q
    cases e
    exact ⟨true, wkL_ok q rp r⟩
  · exact ⟨false, wkT_ok e r⟩
def ItsB (K : PySem.W.Frag) (k : Bool) (a : Addr) : It := match k with
  | true => Itl K a
  | false => Itt K a
theorem turn_seqB {P : Program} {w : World} {K : PySem.W.Frag} {tg : Expr} (k : Bool) (a it : Addr) : Turn P w K tg (ItsB K k a) [it] it (fun i h => ItB k h it a i) := by
  cases k
  · exact turn_tuple a it
  · exact turn_list a it
theorem walk_s {k : Bool} {K : PySem.W.Frag} {η : List Addr} {H : Hp} {a : Addr} {x : Wk} (st : StayW K x η H (fun H' vs => SqB K k H' a vs)) : WalkOk K x η H (ItsB K k a) := by
  cases k
  · exact walk_t st
  · exact walk_l st
def iSeqB (K : PySem.W.Frag) (te : TE) : TI := fun σ H R => te σ H fun v H1 => ∃ (k : Bool) (a : Addr) (xs : List V), v = .ref a ∧ SqB K k H1 a xs ∧ R (ItsB K k a) H1
theorem pi_seqB {X : Cx} {tg e : Expr} {te : TE} (he : PE X e te) : PI X tg e (iSeqB X.K te) := ⟨fun pins s σ H R I h => thn (he.run pins s σ H _ I h) fun u s1 ⟨v, H1, I1, r1, k, a, xs, hv, sx, q⟩ => by
  subst hv
  cases r1
  obtain ⟨us, rx, cx⟩ := SqB.of I1 sx
  refine (begB k a us.toArray).iter _ _ _ _ _ _ cx ⟨s1.heap.objs.size, [s1.heap.objs.size], _, _, H1, rfl, I1.kept (t' := s1.toks) fun b o z => Heap.get?_push_of_some _ z, turn_seqB k a _, ItB.new (Heap.get?_push_size _ (begB k a us.toArray).free), fun b m => ?_, q⟩
  rw [List.mem_singleton.mp m]
  exact I1.fpOk (Nat.le_refl _) (I1.hok.fresh (Nat.le_refl _))⟩
def fItS (a : FE) : FK := fun ρ S => (a ρ S).bind fun w S1 => seqR (wkS w S1) S1
theorem w_seq {X : Cx} {ct : Nat → Option Addr} {E : EX} {tg e : Expr} {f : FE} (he : PE X e (tF (gx X ct) E f)) : PI X tg e (tI (gx X ct) E (fItS f)) := PIw (pi_seqB he) fun σ H R ⟨η, ρ, S, rp, er, h⟩ =>
  ⟨η, ρ, S, rp, er, FinR.mono (FinR.bind (rel := relW (gx X ct)) h) fun v H1 ⟨η1, w, S1, f1, rp1, r1, h1⟩ => by
    obtain ⟨x, e1, h2⟩ := seqR_fin h1
    obtain ⟨k, a, vs, rfl, hq, st⟩ := wkS_ok e1 rp1 r1
    exact ⟨k, a, vs, rfl, hq, h2 η1 H1 _ (Fu.refl _ _) rp1 (walk_s st)⟩⟩
def pairW (u v : W) : W := mkT [u, v]
def zipK (ws : List W) (S : Store) : R Wk := match ws with
  | [u, v] => match wkS u S, wkS v S with
    | some x, some y => .ok ⟨List.zipWith pairW x.xs y.xs, fun S' => x.ok S' ∧ y.ok S'⟩ S
    | _, _ => .bad
  | _ => .bad
def enumW : Nat → List W → List W
  | _, [] => []
  | i, w :: ws => mkT [.d (.int (i : Nat)), w] :: enumW (i + 1) ws
def enumK (ws : List W) (S : Store) : R Wk := match ws with
  | [u] => match wkS u S with
    | some x => .ok ⟨enumW 0 x.xs, x.ok⟩ S
    | none => .bad
  | _ => .bad
theorem RepW.pair {K : PySem.W.Frag} {η : List Addr} {H : Hp} {w u : W} {v v' : V} {T : Addr} (hT : H T = none) (r : RepW K η H w v) (r' : RepW K η H u v') : RepW K η (upd H T (.tup [v, v'])) (mkT [w, u]) (.ref T) :=
  RepWs.mk (SqT.of upd_same) (.cons (RepW.fu (fu_new hT) _ _ r) (.cons (RepW.fu (fu_new hT) _ _ r') .nil))
theorem walk_z {k1 k2 : Bool} {K : PySem.W.Frag} {η : List Addr} {H : Hp} {a b : Addr} {x y : Wk} (s1 : StayW K x η H (fun H' vs => SqB K k1 H' a vs)) (s2 : StayW K y η H (fun H' vs => SqB K k2 H' b vs)) :
    WalkOk K ⟨List.zipWith pairW x.xs y.xs, fun S' => x.ok S' ∧ y.ok S'⟩ η H (ItzB K k1 k2 a b) where
  stop := fun η' H' S' f rp ok => by
    obtain ⟨vs, h1, h2⟩ := s1 η' H' S' f rp ok.1
    obtain ⟨us, h3, h4⟩ := s2 η' H' S' f rp ok.2
    exact ⟨vs, us, h1, h3, by rw [List.length_zipWith, h2.length, h4.length]⟩
  go := fun η' H' S' i w f rp ok e => by
    obtain ⟨vs, h1, h2⟩ := s1 η' H' S' f rp ok.1
    obtain ⟨us, h3, h4⟩ := s2 η' H' S' f rp ok.2
    obtain ⟨p, q, ep, eq, ew⟩ := List.getElem?_zipWith_eq_some.mp e
    obtain ⟨v, ev, rv⟩ := h2.get ep
    obtain ⟨u, eu, ru⟩ := h4.get eq
    refine ⟨⟨vs, us, v, u, h1, h3, ev, eu⟩, fun z H'' yl => ?_⟩
    obtain ⟨T, v', u', rfl, hT, rfl, c1, c2⟩ := yl
    have e1 := c1 vs h1
    have e2 := c2 us h3
    rw [ev] at e1
    rw [eu] at e2
    cases e1
    cases e2
    rw [← ew]
    exact ⟨fu_new hT, rp.new hT, RepW.pair hT rv ru⟩
theorem enumW_length : ∀ (ws : List W) (i : Nat), (enumW i ws).length = ws.length
  | [], _ => rfl
  | _ :: ws, i => by rw [enumW, List.length_cons, List.length_cons, enumW_length ws]
theorem enumW_get : ∀ {ws : List W} {j i : Nat} {w : W}, (enumW j ws)[i]? = some w → ∃ u, ws[i]? = some u ∧ w = mkT [.d (.int ((j + i : Nat) : Int)), u]
  | [], _, _, _, e => by rw [enumW] at e; simp at e
  | u :: ws, j, 0, w, e => by
    rw [enumW] at e
    simp at e
    exact ⟨u, by simp, e.symm⟩
  | u :: ws, j, i + 1, w, e => by
    rw [enumW] at e
    obtain ⟨t, e1, e2⟩ := enumW_get (ws := ws) (j := j + 1) (i := i) (by simpa using e)
    refine ⟨t, by simpa using e1, ?_⟩
    rw [e2]
    have z : j + 1 + i = j + (i + 1) := by omega
    rw [z]
theorem walk_e {k : Bool} {K : PySem.W.Frag} {η : List Addr} {H : Hp} {a : Addr} {x : Wk} (s1 : StayW K x η H (fun H' vs => SqB K k H' a vs)) : WalkOk K ⟨enumW 0 x.xs, x.ok⟩ η H (IteB K k a) where
  stop := fun η' H' S' f rp ok => by
    obtain ⟨vs, h1, h2⟩ := s1 η' H' S' f rp ok
    exact ⟨vs, h1, by show (enumW 0 x.xs).length = vs.length; rw [enumW_length, h2.length]⟩
  go := fun η' H' S' i w f rp ok e => by
    obtain ⟨vs, h1, h2⟩ := s1 η' H' S' f rp ok
    obtain ⟨p, ep, rfl⟩ := enumW_get e
    obtain ⟨v, ev, rv⟩ := h2.get ep
    refine ⟨⟨vs, v, h1, ev⟩, fun z H'' yl => ?_⟩
    obtain ⟨T, v', rfl, hT, rfl, c1⟩ := yl
    have e1 := c1 vs h1
    rw [ev] at e1
    cases e1
    rw [Nat.zero_add]
    exact ⟨fu_new hT, rp.new hT, RepW.pair hT (.d (.int _)) rv⟩
section
variable {X : Cx} {ct : Nat → Option Addr} {E : EX}
theorem w_zip {e e2 : Expr} {fa : FA} {p pos tpos : Pos} {elts : List Expr} {kk : Nat} (hg : Gl X "zip") (hm : X.mg "zip" = none) (ha : PA X [e, e2] (tA (gx X ct) E fa))
    (hs : starEach [e, e2] X.env = (false, eval e X.env) :: starEach [e2] X.env := by rfl) (hpl : (backTo pos (starEach [e2] X.env)).any (·.1) = false := by rfl) :
    PI X (.Tuple elts kk tpos) (.Call (.Name "zip" p) [e, e2] [] pos) (tI (gx X ct) E (fRng zipK fa)) := PIw (pi_zipB hg hm ha hs hpl) fun σ H R ⟨η, ρ, S, rp, er, h⟩ => ⟨η, ρ, S, rp, er, by
    refine FinR.mono (FinR.bind (rel := relL (gx X ct)) h) fun v H1 ⟨η1, w, S1, f1, rp1, r1, h1⟩ => ?_
    unfold zipK at h1
    split at h1
    · rename_i u t
      split at h1
      · rename_i x y ex ey
        obtain ⟨v1, v2, rfl, r2, r3⟩ := repWs2 r1
        obtain ⟨k1, a, vs, rfl, q1, s1⟩ := wkS_ok ex rp1 r2
        obtain ⟨k2, b, us, rfl, q2, s2⟩ := wkS_ok ey rp1 r3
        exact ⟨k1, k2, a, b, vs, us, rfl, q1, q2, h1 η1 H1 _ (Fu.refl _ _) rp1 (walk_z s1 s2)⟩
      · exact h1.elim
    · exact h1.elim⟩
theorem w_enum {e : Expr} {fa : FA} {p pos tpos : Pos} {elts : List Expr} {kk : Nat} (hg : Gl X "enumerate") (hm : X.mg "enumerate" = none) (ha : PA X [e] (tA (gx X ct) E fa)) (hs : starEach [e] X.env = [(false, eval e X.env)] := by rfl) :
    PI X (.Tuple elts kk tpos) (.Call (.Name "enumerate" p) [e] [] pos) (tI (gx X ct) E (fRng enumK fa)) := PIw (pi_enumB hg hm ha hs) fun σ H R ⟨η, ρ, S, rp, er, h⟩ => ⟨η, ρ, S, rp, er, by
    refine FinR.mono (FinR.bind (rel := relL (gx X ct)) h) fun v H1 ⟨η1, w, S1, f1, rp1, r1, h1⟩ => ?_
    unfold enumK at h1
    split at h1
    · rename_i u
      split at h1
      · rename_i x ex
        obtain ⟨v1, rfl, r2⟩ := repWs1 r1
        obtain ⟨k, a, vs, rfl, q1, s1⟩ := wkS_ok ex rp1 r2
        exact ⟨k, a, vs, rfl, q1, h1 η1 H1 _ (Fu.refl _ _) rp1 (walk_e s1)⟩
      · exact h1.elim
    · exact h1.elim⟩
end
end VI
set_option Elab.async false
set_option linter.all false
set_option maxRecDepth 100000
namespace VI
open PySem PySem.Spec PyProof.Rows L2
open Classical

/-! for -/
/-- the turns of a loop -/
noncomputable def forL (ok : Store → Prop) (g : FG) (b : FS) : List W → Rho → Store → RF
  | [], ρ, S => if ok S then .next ρ S else .bad
  | w :: ws, ρ, S => if ok S then (match g w ρ with
    | none => .bad
    | some ρ1 => match b ρ1 S with
      | .next ρ2 S2 => forL ok g b ws ρ2 S2
      | .cnt ρ2 S2 => forL ok g b ws ρ2 S2
      | .brk ρ2 S2 => .next ρ2 S2
      | r => r) else .bad
noncomputable def fFor (it : FK) (g : FG) (b : FS) : FS := fun ρ S => toS ρ (it ρ S) fun x S1 => forL x.ok g b x.xs ρ S1
section
variable {X : Cx} {ct : Nat → Option Addr} {E : EX}
theorem for_ok {ok : Store → Prop} {g : FG} {b : FS} {ws : List W} {ρ : Rho} {S : Store} {η : List Addr} {H : Hp} {D : Ends} (h : FinS (gx X ct) E η H (forL ok g b ws ρ S) D) : ok S := by
  by_cases q : ok S
  · exact q
  · cases ws <;> (rw [forL, if_neg q] at h; exact h.elim)
theorem s_for {tg iter : Expr} {body : List Stmt} {it : FK} {g : FG} {b : FS} {pos : Pos} (hp : PassesOwn (model X.prog X.w) X.A X.env X.xe) (hc : X.calm = true) (hi : PI X tg iter (tI (gx X ct) E it)) (hg : PG X tg (tG (gx X ct) g)) (hb : PSs X body (tS (gx X ct) E b))
    (hs : ∀ x, foldedSetIterable iter X.env x = pure x := by intro _; rfl) : PS X (.For tg iter body [] pos) (tS (gx X ct) E (fFor it g b)) := PSw (ps_for hp hc hi hg hb hs) fun D σ H ⟨η, ρ, S, rp, er, h⟩ =>
  ⟨η, ρ, S, rp, er, FinR.mono (FinS.bind er h) fun J H1 ⟨η1, x, S1, f1, rp1, wk, h1⟩ => by
    refine ⟨fun i m σ H => m = x.xs.length - i ∧ i ≤ x.xs.length ∧ ∃ η' ρ' S', Fu η1 H1 η' H ∧ Rp X.K η' H S' ∧ ERep X.K η' H ρ' σ ∧ FinS (gx X ct) E η' H (forL x.ok g b (x.xs.drop i) ρ' S') D,
      ⟨x.xs.length, rfl, Nat.zero_le _, η1, ρ, S1, Fu.refl _ _, rp1, er.fu f1, h1⟩, ?_⟩
    rintro i m σ H ⟨rfl, hi, η', ρ', S', f', rp', er', h'⟩
    have ok := for_ok h'
    by_cases hlt : i < x.xs.length
    · have ew : x.xs[i]? = some x.xs[i] := List.getElem?_eq_getElem hlt
      rw [List.drop_eq_getElem_cons hlt, forL, if_pos ok] at h'
      obtain ⟨go, yl⟩ := wk.go η' H S' i _ f' rp' ok ew
      refine .inr ⟨go, fun σ H => ∃ η' ρ' S', Fu η1 H1 η' H ∧ Rp X.K η' H S' ∧ ERep X.K η' H ρ' σ ∧ FinS (gx X ct) E η' H (forL x.ok g b (x.xs.drop (i + 1)) ρ' S') D, fun σ' H' q => ⟨_, by omega, rfl, hlt, q⟩, fun y H' yy => ?_⟩
      obtain ⟨f2, rp2, r2⟩ := yl y H' yy
      cases eg : g x.xs[i] ρ' with
      | none => rw [eg] at h'; exact h'.elim
      | some ρ1 =>
        rw [eg] at h'
        dsimp only at h'
        refine ⟨η', ρ', _, ρ1, r2, er'.fu f2, eg, fun σ2 er2 => ⟨η', ρ1, S', rp2, er2, ?_⟩⟩
        have h2 := FinS.fu f2 h'
        have f3 := f'.trans f2
        cases eb : b ρ1 S' with
        | next ρ2 S2 => rw [eb] at h2; exact fun η3 H3 σ3 f4 rp3 er3 => ⟨η3, ρ2, S2, f3.trans f4, rp3, er3, FinS.fu f4 h2⟩
        | cnt ρ2 S2 => rw [eb] at h2; exact fun η3 H3 σ3 f4 rp3 er3 => ⟨η3, ρ2, S2, f3.trans f4, rp3, er3, FinS.fu f4 h2⟩
        | brk ρ2 S2 => rw [eb] at h2; exact h2
        | ret w S2 => rw [eb] at h2; exact h2
        | exc c fs ρ2 S2 => rw [eb] at h2; exact h2
        | bad => rw [eb] at h2; exact h2
    · have ei : i = x.xs.length := by omega
      subst ei
      rw [List.drop_eq_nil_of_le (Nat.le_refl _), forL, if_pos ok] at h'
      exact .inl ⟨wk.stop η' H S' f' rp' ok, h' η' H σ (Fu.refl _ _) rp' er'⟩⟩
end

/-! comprehensions -/
def wipeR (ρ : Rho) : List Nat → Rho
  | [] => ρ
  | v :: vs => (wipeR ρ vs).set v none
theorem ERep.drop1 {K : PySem.W.Frag} {η : List Addr} {H : Hp} {ρ : Rho} {σ : L2.St} (e : ERep K η H ρ σ) (i : Nat) : ERep K η H (ρ.set i none) (σ.set i none) := by
  refine ⟨by rw [List.length_set, List.length_set]; exact e.1, fun j w h => ?_⟩
  by_cases hj : j = i
  · subst hj
    rw [List.getElem?_set] at h
    simp at h
  · rw [List.getElem?_set_ne (Ne.symm hj)] at h
    rw [List.getElem?_set_ne (Ne.symm hj)]
    exact e.2 j w h
theorem ERep.wipe {K : PySem.W.Frag} {η : List Addr} {H : Hp} {ρ : Rho} {σ : L2.St} (e : ERep K η H ρ σ) : ∀ vs : List Nat, ERep K η H (wipeR ρ vs) (L2.wipe σ vs)
  | [] => e
  | v :: vs => (ERep.wipe e vs).drop1 v
theorem wipe_at (σ : L2.St) (j : Nat) : ∀ vs : List Nat, (L2.wipe σ vs)[j]? = if j ∈ vs ∧ j < σ.length then some none else σ[j]?
  | [] => by simp [L2.wipe]
  | v :: vs => by
    rw [L2.wipe, List.getElem?_set, wipe_at σ j vs, wipe_length]
    by_cases e : v = j
    · subst e
      by_cases l : v < σ.length
      · simp [l]
      · simp [l, List.getElem?_eq_none (Nat.le_of_not_lt l)]
    · have : j ≠ v := fun z => e z.symm
      simp [e, this]
theorem wipe_set {σ : L2.St} {i : Nat} {x : Option V} {vs : List Nat} (h : i ∈ vs) : L2.wipe (σ.set i x) vs = L2.wipe σ vs := by
  refine List.ext_getElem? fun j => ?_
  rw [wipe_at, wipe_at, List.length_set]
  by_cases e : j ∈ vs ∧ j < σ.length
  · rw [if_pos e, if_pos e]
  · rw [if_neg e, if_neg e]
    by_cases z : i = j
    · subst z
      have : ¬ i < σ.length := fun l => e ⟨h, l⟩
      rw [List.getElem?_eq_none (by rw [List.length_set]; omega), List.getElem?_eq_none (by omega)]
    · rw [List.getElem?_set_ne z]
/-- targets of a block's own names -/
def tGb (G : Gc) (vs : List Nat) (g : FG) : TG := fun v σ H Q => ∃ η ρ w ρ', RepW G.K η H w v ∧ ERep G.K η H ρ σ ∧ g w ρ = some ρ' ∧ ∀ σ', ERep G.K η H ρ' σ' → L2.wipe σ' vs = L2.wipe σ vs → Q σ' H
def tGbs (G : Gc) (vs : List Nat) (g : FGs) : TGs := fun us σ H Q => ∃ η ρ ws ρ', RepWs G.K η H ws us ∧ ERep G.K η H ρ σ ∧ g ws ρ = some ρ' ∧ ∀ σ', ERep G.K η H ρ' σ' → L2.wipe σ' vs = L2.wipe σ vs → Q σ' H
section
variable {X : Cx} {G : Gc} {vs : List Nat}
theorem gb_name (i : Nat) {x : Str} {pos : Pos} (hN : X.N.Nodup) (hG : G.K = X.K) (hm : i ∈ vs) (hi : X.N[i]? = some x := by rfl) (hx : Loc X.env.scope x := by first | exact Or.inl rfl | exact Or.inr rfl) (hf : X.fn x = true ∨ X.env.scope.names.lookup x = some .local := by first | exact .inl rfl | exact .inr rfl) :
    PG X (.Name x pos) (tGb G vs (gtName i)) := PGw (pg_name hN hi hx hf) fun v σ H Q ⟨η, ρ, w, ρ', r, er, e, h⟩ => by
  cases e
  exact h _ (er.set r) (wipe_set hm)
theorem gbs_nil : PGs X [] (tGbs G vs gtNil) := PGsw pgs_nil fun v σ H Q ⟨η, ρ, w, ρ', r, er, e, h⟩ => by
  unfold gtNil at e
  split at e
  · cases e
    cases r
    exact ⟨rfl, h _ er rfl⟩
  · cases e
theorem gbs_cons {e : Expr} {es : List Expr} {g : FG} {gs : FGs} (h1 : PG X e (tGb G vs g)) (h2 : PGs X es (tGbs G vs gs)) (hs : (assignEach (e :: es) X.env).map (·.2) = assign e X.env :: (assignEach es X.env).map (·.2) := by rfl) :
    PGs X (e :: es) (tGbs G vs (gtCons g gs)) := PGsw (pgs_cons h1 h2 hs) fun v σ H Q ⟨η, ρ, w, ρ', r, er, e, h⟩ => by
  unfold gtCons at e
  split at e
  · rename_i w0 ws
    cases r with
    | cons r1 r2 =>
      split at e
      · rename_i ρ1 e1
        exact ⟨_, _, rfl, η, ρ, w0, ρ1, r1, er, e1, fun σ1 er1 z1 => ⟨η, ρ1, ws, ρ', r2, er1, e, fun σ2 er2 z2 => h σ2 er2 (z2.trans z1)⟩⟩
      · cases e
  · cases e
theorem gb_tup {es : List Expr} {k n : Nat} {pos : Pos} {gs : FGs} (hc : X.calm = true) (hG : G.K = X.K) (h : PGs X es (tGbs G vs gs)) (hn : (assignEach es X.env).length = n := by rfl) (hst : (assignEach es X.env).findIdx? (·.1) = none := by rfl) :
    PG X (.Tuple es k pos) (tGb G vs (gtTup n gs)) := PGw (pg_tup hc h hn hst) fun v σ H Q ⟨η, ρ, w, ρ', r, er, e, h⟩ => by
  unfold gtTup at e
  split at e
  · rename_i ws e1
    obtain ⟨a, us, rfl, h1, h2⟩ := asTW_ok e1 r
    split at e
    · rename_i hl
      exact ⟨a, us, rfl, hG ▸ h1, by rw [← h2.length]; exact hl, η, ρ, ws, ρ', h2, er, e, h⟩
    · cases e
  · cases e
end
def noX {α : Type} : R α → R α
  | .exc _ _ _ => .bad
  | r => r
theorem FinR.noX {α β : Type} {G : Gc} {rel : α → List Addr → Hp → β → Prop} {Z Z' : XK} {η : List Addr} {H : Hp} {r : R α} {Q : β → Hp → Prop} (h : FinR G rel Z η H (VI.noX r) Q) : FinR G rel Z' η H r Q := by
  cases r with
  | ok w S => exact h
  | exc c fs S => exact h.elim
  | bad => exact h
/-- a member joins the new list -/
def lcPut (l : Nat) (w : W) (S : Store) : Option Store := match w, S[l]? with
  | .d d, some (.lst ds) => if ds.length < lim then some (S.set l (.lst (ds ++ [d]))) else none
  | _, _ => none
noncomputable def lcL (ok : Store → Prop) (g : FG) (t : FT) (e : FE) (ρ : Rho) (l : Nat) : List W → Store → R W
  | [], S => if ok S then .ok (.loc l) S else .bad
  | w :: ws, S => if ok S then (match g w ρ with
    | none => .bad
    | some ρ1 => (noX (t ρ1 S)).bind fun k S1 => if k = true then (noX (frz S1.length (e ρ1 S1))).bind fun u S2 => (match lcPut l u S2 with
        | some S3 => lcL ok g t e ρ l ws S3
        | none => .bad) else lcL ok g t e ρ l ws S1) else .bad
noncomputable def fLcL (it : FK) (g : FG) (t : FT) (e : FE) (vs : List Nat) : FE := fun ρ S => (it ρ S).bind fun x S1 => lcL x.ok g t e (wipeR ρ vs) S1.length x.xs (S1 ++ [.lst []])
noncomputable def fLc (it : FK) (g : FG) (t : FT) (e : FE) (vs : List Nat) : FE := fun ρ S => frz S.length (fLcL it g t e vs ρ S)
def fYes : FT := fun _ S => .ok true S
section
variable {X : Cx} {ct : Nat → Option Addr} {E : EX}
theorem ts_nil {G : Gc} : PTs X [] (tT G E fYes) := ⟨fun pins s σ H Q I ⟨η, ρ, S, rp, er, h⟩ => pts_nil.run pins s σ H Q I (h η H true (Fu.refl _ _) rp rfl)⟩
theorem ts_one {G : Gc} {c : Expr} {t : FT} (h : PT X c (tT G E t)) : PTs X [c] (tT G E t) := pts_one h
theorem lc_ok {ok : Store → Prop} {g : FG} {t : FT} {e : FE} {ρ : Rho} {l : Nat} {ws : List W} {S : Store} {Z : XK} {η : List Addr} {H : Hp} {Q : VK} (h : FinR (gx X ct) (relW (gx X ct)) Z η H (lcL ok g t e ρ l ws S) Q) : ok S := by
  by_cases q : ok S
  · exact q
  · cases ws <;> (rw [lcL, if_neg q] at h; exact h.elim)
theorem lcPut_ok {l : Nat} {w : W} {S S' : Store} {η : List Addr} {H : Hp} {D : Addr} {y : V} {P : Hp → Prop} (e : lcPut l w S = some S') (rp : Rp X.K η H S) (hD : η[l]? = some D) (r : RepW X.K η H w y) (h : ∀ H', Fu η H η H' → Rp X.K η H' S' → P H') :
    ∃ acc, H D = some (.lst acc) ∧ acc.length < sizeLine ∧ P (upd H D (.lst (acc ++ [y]))) := by
  unfold lcPut at e
  split at e
  · rename_i d ds q
    split at e
    · rename_i hl
      cases e
      cases r with
      | d r =>
        obtain ⟨vs, h1, h2⟩ := rp.all _ _ _ hD q
        have f : Fu η H η (upd H D (.lst (vs ++ [y]))) := fu_write (List.mem_of_getElem? hD) h1 trivial
        exact ⟨vs, h1, by rw [← h2.length, sizeLine_eq]; exact hl, h _ f (rp.write hD ⟨_, upd_same, RepDs.fu f _ _ (h2.append (.cons r .nil))⟩)⟩
    · cases e
  · cases e
theorem lc_key {it : FK} {g : FG} {t : FT} {e : FE} {vs : List Nat} : ∀ σ H Q, tF (gx X ct) E (fLcL it g t e vs) σ H Q → tLc (tI (gx X ct) E it) (tGb (gx X ct) vs g) (tT (gx X ct) (fun _ => E0) t) (tF (gx X ct) (fun _ => E0) e) vs σ H Q := fun σ H Q ⟨η, ρ, S, rp, er, h⟩ =>
  ⟨η, ρ, S, rp, er, FinR.mono (FinR.bind (rel := relJ (gx X ct)) h) fun J H1 ⟨η1, x, S1, f1, rp1, wk, h1⟩ D hD => by
    have rp2 : Rp X.K (η1 ++ [D]) (upd H1 D (.lst [])) (S1 ++ [.lst []]) := rp1.live hD ⟨[], upd_same, .nil⟩
    have f2 : Fu η1 H1 (η1 ++ [D]) (upd H1 D (.lst [])) := fu_live hD
    have lD : S1.length = η1.length := rp1.len.symm
    refine ⟨fun i m H => m = x.xs.length - i ∧ i ≤ x.xs.length ∧ ∃ η' S', Fu (η1 ++ [D]) (upd H1 D (.lst [])) η' H ∧ Rp X.K η' H S' ∧ FinR (gx X ct) (relW (gx X ct)) (E σ) η' H (lcL x.ok g t e (wipeR ρ vs) S1.length (x.xs.drop i) S') Q,
      ⟨x.xs.length, rfl, Nat.zero_le _, η1 ++ [D], _, Fu.refl _ _, rp2, FinR.fu f2 h1⟩, ?_⟩
    rintro i m H ⟨rfl, hi, η', S', f', rp', h'⟩
    have ok := lc_ok h'
    have gD : ∀ {η2 : List Addr} {H2 : Hp}, Fu (η1 ++ [D]) (upd H1 D (.lst [])) η2 H2 → η2[S1.length]? = some D := fun f => f.get (by rw [lD, List.getElem?_append_right (Nat.le_refl _)]; simp)
    by_cases hlt : i < x.xs.length
    · have ew : x.xs[i]? = some x.xs[i] := List.getElem?_eq_getElem hlt
      rw [List.drop_eq_getElem_cons hlt, lcL, if_pos ok] at h'
      obtain ⟨go, yl⟩ := wk.go η' H S' i _ (f2.trans f') rp' ok ew
      refine .inr ⟨go, fun H => ∃ η' S', Fu (η1 ++ [D]) (upd H1 D (.lst [])) η' H ∧ Rp X.K η' H S' ∧ FinR (gx X ct) (relW (gx X ct)) (E σ) η' H (lcL x.ok g t e (wipeR ρ vs) S1.length (x.xs.drop (i + 1)) S') Q, fun H' q => ⟨_, by omega, rfl, hlt, q⟩, fun y H' yy => ?_⟩
      obtain ⟨f3, rp3, r3⟩ := yl y H' yy
      cases eg : g x.xs[i] (wipeR ρ vs) with
      | none => rw [eg] at h'; exact h'.elim
      | some ρ1 =>
        rw [eg] at h'
        dsimp only at h'
        have h2 := FinR.fu f3 h'
        have f4 := f'.trans f3
        refine ⟨η', wipeR ρ vs, _, ρ1, r3, (((er.fu f1).fu f2).fu f4).wipe vs, eg, fun σ2 er2 z2 => ⟨?_, η', ρ1, S', rp3, er2, ?_⟩⟩
        · rw [z2]
          refine List.ext_getElem? fun j => ?_
          rw [wipe_at, wipe_at, wipe_length]
          by_cases q : j ∈ vs ∧ j < σ.length
          · rw [if_pos q, if_pos q]
          · rw [if_neg q, if_neg q]
        refine FinR.noX (FinR.mono (FinR.bind (rel := relB) h2) fun k H5 ⟨η5, k', S5, f5, rp5, rk, h5⟩ => ?_)
        obtain rfl : k = k' := rk
        have f45 := f4.trans f5
        by_cases hk : k = true
        · rw [if_pos hk] at h5 ⊢
          refine ⟨η5, ρ1, S5, rp5, er2.fu f5, FinR.frz rp5 (FinR.noX (FinR.mono (FinR.bind (rel := relW (gx X ct)) h5) fun y H6 ⟨η6, u, S6, f6, rp6, r6, h6⟩ => ?_))⟩
          split at h6
          · rename_i S7 e7
            exact lcPut_ok (P := fun H => ∃ η' S', Fu (η1 ++ [D]) (upd H1 D (.lst [])) η' H ∧ Rp X.K η' H S' ∧ FinR (gx X ct) (relW (gx X ct)) (E σ) η' H (lcL x.ok g t e (wipeR ρ vs) S1.length (x.xs.drop (i + 1)) S') Q) e7 rp6 (gD (f45.trans f6)) r6 fun H7 f7 rp7 => ⟨η6, S7, (f45.trans f6).trans f7, rp7, FinR.fu f7 h6⟩
          · exact h6.elim
        · rw [if_neg hk] at h5 ⊢
          exact ⟨η5, S5, f45, rp5, h5⟩
    · have ei : i = x.xs.length := by omega
      subst ei
      rw [List.drop_eq_nil_of_le (Nat.le_refl _), lcL, if_pos ok] at h'
      exact .inl ⟨wk.stop η' H S' (f2.trans f') rp' ok, h' η' H _ (Fu.refl _ _) rp' (.loc (gD f'))⟩⟩
variable {elt tg iter : Expr} {ifs : List Expr} {scope : Scope} {own : List (Str × Nat)} {pos spos : Pos} {it : FK} {g : FG} {t : FT} {e : FE}
theorem i_lcL (hc : X.calm = true) (hN : X.N.Nodup) (hi : PI X tg iter (tI (gx X ct) E it)) (ok : BlkOk X.N X.env.scope scope own)
    (hg : ∀ (s : Shared) (H : Hp) (C : Addr) (cl : List (Str × Addr)) (fp : List Addr), PG (X.blk s H scope (compEnvC scope cl C X.env) fp) tg (tGb (gx X ct) (own.map (·.2)) g))
    (ht : ∀ (s : Shared) (H : Hp) (C : Addr) (cl : List (Str × Addr)) (fp : List Addr), PTs (X.blk s H scope (compEnvC scope cl C X.env) fp) ifs (tT (gx X ct) (fun _ => E0) t))
    (he : ∀ (s : Shared) (H : Hp) (C : Addr) (cl : List (Str × Addr)) (fp : List Addr), PE (X.blk s H scope (compEnvC scope cl C X.env) fp) elt (tF (gx X ct) (fun _ => E0) e)) (hs : ∀ x, foldedSetIterable iter X.env x = pure x := by intro _; rfl) :
    PE X (.ListComp elt [⟨tg, iter, ifs, 0⟩] scope pos) (tF (gx X ct) E (fLcL it g t e (own.map (·.2)))) := PEw (pe_lc hc hN hi ok hg ht he hs) lc_key
theorem i_lc (hc : X.calm = true) (hN : X.N.Nodup) (hi : PI X tg iter (tI (gx X ct) E it)) (ok : BlkOk X.N X.env.scope scope own)
    (hg : ∀ (s : Shared) (H : Hp) (C : Addr) (cl : List (Str × Addr)) (fp : List Addr), PG (X.blk s H scope (compEnvC scope cl C X.env) fp) tg (tGb (gx X ct) (own.map (·.2)) g))
    (ht : ∀ (s : Shared) (H : Hp) (C : Addr) (cl : List (Str × Addr)) (fp : List Addr), PTs (X.blk s H scope (compEnvC scope cl C X.env) fp) ifs (tT (gx X ct) (fun _ => E0) t))
    (he : ∀ (s : Shared) (H : Hp) (C : Addr) (cl : List (Str × Addr)) (fp : List Addr), PE (X.blk s H scope (compEnvC scope cl C X.env) fp) elt (tF (gx X ct) (fun _ => E0) e)) (hs : ∀ x, foldedSetIterable iter X.env x = pure x := by intro _; rfl) :
    PE X (.ListComp elt [⟨tg, iter, ifs, 0⟩] scope pos) (tF (gx X ct) E (fLc it g t e (own.map (·.2)))) := PEw (i_lcL hc hN hi ok hg ht he hs) fun σ H Q ⟨η, ρ, S, rp, er, h⟩ => ⟨η, ρ, S, rp, er, FinR.frz rp h⟩
theorem s_setLcL (i : Nat) {y : Str} {py : Pos} (hc : X.calm = true) (hN : X.N.Nodup) (hsw : swapsWith (.ListComp elt [⟨tg, iter, ifs, 0⟩] scope pos) (some (.Name y py)) spos.line X.env = pure true) (hi : PI X tg iter (tI (gx X ct) E it)) (ok : BlkOk X.N X.env.scope scope own)
    (hg : ∀ (s : Shared) (H : Hp) (C : Addr) (cl : List (Str × Addr)) (fp : List Addr), PG (X.blk s H scope (compEnvC scope cl C X.env) fp) tg (tGb (gx X ct) (own.map (·.2)) g))
    (ht : ∀ (s : Shared) (H : Hp) (C : Addr) (cl : List (Str × Addr)) (fp : List Addr), PTs (X.blk s H scope (compEnvC scope cl C X.env) fp) ifs (tT (gx X ct) (fun _ => E0) t))
    (he : ∀ (s : Shared) (H : Hp) (C : Addr) (cl : List (Str × Addr)) (fp : List Addr), PE (X.blk s H scope (compEnvC scope cl C X.env) fp) elt (tF (gx X ct) (fun _ => E0) e)) (hy : X.N[i]? = some y := by rfl) (hyl : X.env.scope.names.lookup y = some .local := by rfl) (hs : ∀ x, foldedSetIterable iter X.env x = pure x := by intro _; rfl) :
    PS X (.Assign [.Name y py] (.ListComp elt [⟨tg, iter, ifs, 0⟩] scope pos) spos) (tS (gx X ct) E (fAsg (fLcL it g t e (own.map (·.2))) (gtName i))) := PSw (ps_setLc hc hN hy hyl hsw hi ok hg ht he hs) fun D σ H ⟨η, ρ, S, rp, er, h⟩ =>
  lc_key _ _ _ ⟨η, ρ, S, rp, er, FinR.mono (FinS.bind er h) fun v H1 ⟨η1, w, S1, f1, rp1, r1, h1⟩ => h1 η1 H1 _ (Fu.refl _ _) rp1 ((er.fu f1).set r1)⟩
theorem s_setLc (i : Nat) {y : Str} {py : Pos} (hc : X.calm = true) (hN : X.N.Nodup) (hsw : swapsWith (.ListComp elt [⟨tg, iter, ifs, 0⟩] scope pos) (some (.Name y py)) spos.line X.env = pure true) (hi : PI X tg iter (tI (gx X ct) E it)) (ok : BlkOk X.N X.env.scope scope own)
    (hg : ∀ (s : Shared) (H : Hp) (C : Addr) (cl : List (Str × Addr)) (fp : List Addr), PG (X.blk s H scope (compEnvC scope cl C X.env) fp) tg (tGb (gx X ct) (own.map (·.2)) g))
    (ht : ∀ (s : Shared) (H : Hp) (C : Addr) (cl : List (Str × Addr)) (fp : List Addr), PTs (X.blk s H scope (compEnvC scope cl C X.env) fp) ifs (tT (gx X ct) (fun _ => E0) t))
    (he : ∀ (s : Shared) (H : Hp) (C : Addr) (cl : List (Str × Addr)) (fp : List Addr), PE (X.blk s H scope (compEnvC scope cl C X.env) fp) elt (tF (gx X ct) (fun _ => E0) e)) (hy : X.N[i]? = some y := by rfl) (hyl : X.env.scope.names.lookup y = some .local := by rfl) (hs : ∀ x, foldedSetIterable iter X.env x = pure x := by intro _; rfl) :
    PS X (.Assign [.Name y py] (.ListComp elt [⟨tg, iter, ifs, 0⟩] scope pos) spos) (tS (gx X ct) E (fAsg (fLc it g t e (own.map (·.2))) (gtName i))) := PSw (ps_setLc hc hN hy hyl hsw hi ok hg ht he hs) fun D σ H ⟨η, ρ, S, rp, er, h⟩ =>
  lc_key _ _ _ ⟨η, ρ, S, rp, er, FinR.frz rp (FinR.mono (FinS.bind er h) fun v H1 ⟨η1, w, S1, f1, rp1, r1, h1⟩ => h1 η1 H1 _ (Fu.refl _ _) rp1 ((er.fu f1).set r1))⟩
end
end VI
set_option Elab.async false
set_option linter.all false
set_option maxRecDepth 100000
namespace VI
open PySem PySem.Spec PyProof.Rows L2

/-! methods of a live list -/
def liveB (w : W) (S : Store) : Bool := match w with
  | .loc l => match S[l]? with
    | some (.lst _) => true
    | _ => false
  | _ => false
theorem liveB_ok {K : PySem.W.Frag} {η : List Addr} {H : Hp} {S : Store} {w : W} {v : V} (e : liveB w S = true) (rp : Rp K η H S) (r : RepW K η H w v) : tyV K "list" v H := by
  unfold liveB at e
  split at e
  · split at e
    · rename_i l xs q
      cases r with
      | loc r =>
        obtain ⟨vs, h1, h2⟩ := rp.all _ _ _ r q
        exact .inl ⟨rfl, vs, SqL.of h1⟩
    · cases e
  · cases e
abbrev GM := W → List W → Store → O
def SimM (X : Cx) (ct : Nat → Option Addr) (g : GM) : V → List V → Hp → VK → Prop := fun x xs H Q => ∃ η S wx ws, Rp X.K η H S ∧ RepW X.K η H wx x ∧ RepWs X.K η H ws xs ∧ FinO (gx X ct) η H (g wx ws S) Q
def fMeth (g : GM) (o : FE) (a : FA) : FE := fun ρ S => (o ρ S).bind fun ov S1 => if liveB ov S1 = true then (a ρ S1).bind fun ws S2 => lift (g ov ws S2) else .bad
def fMeth0 (g : GM) (o : FE) : FE := fun ρ S => (o ρ S).bind fun ov S1 => if liveB ov S1 = true then lift (g ov [] S1) else .bad
theorem MtR.fit {X : Cx} {id : String} {r r' : V → List V → Hp → VK → Prop} (h : MtR X id r) (i : ∀ x xs H Q, r' x xs H Q → r x xs H Q) : MtR X id r' := fun pins s σ H x xs v us Q I rx ry q => h pins s σ H x xs v us Q I rx ry (i _ _ _ _ q)
section
variable {X : Cx} {ct : Nat → Option Addr} {E : EX} {o e : Expr} {es : List Expr} {name : Str} {apos cpos : Pos} {id : String} {g : GM} {fo : FE} {fa : FA}
theorem i_meth (slot : Slot "list" name id) (hty : typeOf (.builtin id) = pure (.type "method_descriptor")) (hm : MtR X id (SimM X ct g)) (ho : PE X o (tF (gx X ct) E fo)) (ha : PA X (e :: es) (tA (gx X ct) E fa))
    (hbase : attributeBase o name X.env (eval o X.env) = eval o X.env := by rfl)
    (hfew : ((backTo cpos (starEach (e :: es) X.env)).all (fun x => !x.1) && (backToKw cpos (keywordEach [] X.env)).all (fun x => x.1.isSome)
      && decide ((e :: es).length + ([] : List Keyword).length + (if ([] : List Keyword).isEmpty then 0 else 1) < 30)) = true := by rfl)
    (hline : (apos.endLine == cpos.line) = true := by rfl) (hs : starEach (e :: es) X.env = (false, eval e X.env) :: starEach es X.env := by rfl) (hplain : (backTo cpos (starEach es X.env)).any (·.1) = false := by rfl) :
    PE X (.Call (.Attribute o name apos) (e :: es) [] cpos) (tF (gx X ct) E (fMeth g fo fa)) := PEw (pe_bm PySem.F.plainAttrs_list slot hty hm ho ha hbase hfew hline hs hplain) fun σ H Q ⟨η, ρ, S, rp, er, h⟩ =>
  ⟨η, ρ, S, rp, er, FinR.mono (FinR.bind (rel := relW (gx X ct)) h) fun v H1 ⟨η1, w, S1, f1, rp1, r1, h1⟩ => by
    by_cases q : liveB w S1 = true
    · rw [if_pos q] at h1
      exact ⟨liveB_ok q rp1 r1, η1, ρ, S1, rp1, er.fu f1, FinR.mono (FinR.bind (rel := relL (gx X ct)) h1) fun vs H2 ⟨η2, ws, S2, f2, rp2, r2, h2⟩ => ⟨η2, S2, w, ws, rp2, RepW.fu f2 _ _ r1, r2, lift_ok h2⟩⟩
    · rw [if_neg q] at h1
      exact h1.elim⟩
theorem i_meth0 (slot : Slot "list" name id) (hty : typeOf (.builtin id) = pure (.type "method_descriptor")) (hm : MtR X id (SimM X ct g)) (ho : PE X o (tF (gx X ct) E fo))
    (hbase : attributeBase o name X.env (eval o X.env) = eval o X.env := by rfl) (hline : (apos.endLine == cpos.line) = true := by rfl) :
    PE X (.Call (.Attribute o name apos) [] [] cpos) (tF (gx X ct) E (fMeth0 g fo)) := PEw (pe_bm0 PySem.F.plainAttrs_list slot hty hm ho hbase hline) fun σ H Q ⟨η, ρ, S, rp, er, h⟩ =>
  ⟨η, ρ, S, rp, er, FinR.mono (FinR.bind (rel := relW (gx X ct)) h) fun v H1 ⟨η1, w, S1, f1, rp1, r1, h1⟩ => by
    by_cases q : liveB w S1 = true
    · rw [if_pos q] at h1
      exact ⟨liveB_ok q rp1 r1, η1, S1, w, [], rp1, r1, .nil, lift_ok h1⟩
    · rw [if_neg q] at h1
      exact h1.elim⟩
/-! the methods -/
def mAppend : GM := fun o ws S => match o, ws with
  | .loc l, [.d x] => match S[l]? with
    | some (.lst xs) => if xs.length < lim then some (.d .none, S.set l (.lst (xs ++ [x]))) else none
    | _ => none
  | _, _ => none
def mExtend : GM := fun o ws S => match o, ws with
  | .loc l, [u] => match S[l]?, asL u S with
    | some (.lst xs), some ys => if xs.length + ys.length ≤ lim then some (.d .none, S.set l (.lst (xs ++ ys))) else none
    | _, _ => none
  | _, _ => none
def mPop : GM := fun o ws S => match o, ws with
  | .loc l, [] => match S[l]? with
    | some (.lst xs) => match xs[xs.length - 1]? with
      | some x => some (.d x, S.set l (.lst xs.dropLast))
      | none => none
    | _ => none
  | _, _ => none
def mPopAt : GM := fun o ws S => match o, ws with
  | .loc l, [.d (.int i)] => match S[l]? with
    | some (.lst xs) => if -(2 ^ 63) ≤ i ∧ i < 2 ^ 63 then match seqIndex? i xs.length with
      | some k => match xs[k]? with
        | some x => some (.d x, S.set l (.lst (xs.eraseIdx k)))
        | none => none
      | none => none else none
    | _ => none
  | _, _ => none
def mInsert : GM := fun o ws S => match o, ws with
  | .loc l, [.d (.int i), .d x] => match S[l]? with
    | some (.lst xs) => if xs.length < lim ∧ 0 ≤ i ∧ i < 2 ^ 63 then some (.d .none, S.set l (.lst (xs.take i.toNat ++ [x] ++ xs.drop i.toNat))) else none
    | _ => none
  | _, _ => none
theorem live_at {K : PySem.W.Frag} {η : List Addr} {H : Hp} {S : Store} {l : Nat} {v : V} {xs : List PyData} (q : S[l]? = some (.lst xs)) (rp : Rp K η H S) (r : RepW K η H (.loc l) v) : ∃ a vs, v = .ref a ∧ η[l]? = some a ∧ H a = some (.lst vs) ∧ RepDs K η H xs vs := by
  cases r with
  | loc r =>
    obtain ⟨vs, h1, h2⟩ := rp.all _ _ _ r q
    exact ⟨_, vs, rfl, r, h1, h2⟩
theorem m_append : MtR X "list.append" (SimM X ct mAppend) := MtR.fit mt_append fun x xs H Q ⟨η, S, wx, ws, rp, rx, rr, h⟩ => by
  unfold mAppend at h
  split at h
  · rename_i l d
    split at h
    · rename_i ds q
      obtain ⟨a, vs, rfl, ha, h1, h2⟩ := live_at q rp rx
      obtain ⟨y, rfl, ry⟩ := repWs1 rr
      split at h
      · rename_i hl
        cases ry with
        | d ry => exact ⟨a, vs, y, rfl, rfl, h1, by rw [← h2.length, sizeLine_eq]; exact hl, write_list rp ha (h2.append (.cons ry .nil)) (.d .none) h⟩
      · exact h.elim
    · exact h.elim
  · exact h.elim
theorem m_extend : MtR X "list.extend" (SimM X ct mExtend) := MtR.fit mt_extend fun x xs H Q ⟨η, S, wx, ws, rp, rx, rr, h⟩ => by
  unfold mExtend at h
  split at h
  · rename_i l u
    split at h
    · rename_i ds es q e
      obtain ⟨a, vs, rfl, ha, h1, h2⟩ := live_at q rp rx
      obtain ⟨y, rfl, ry⟩ := repWs1 rr
      obtain ⟨b, us, rfl, h3, h4⟩ := asL_ok e rp ry
      split at h
      · rename_i hl
        exact ⟨a, b, vs, us, rfl, rfl, h1, h3, by rw [← h2.length, ← h4.length, sizeLine_eq]; exact hl, write_list rp ha (h2.append h4) (.d .none) h⟩
      · exact h.elim
    · exact h.elim
  · exact h.elim
theorem m_pop : MtR X "list.pop" (SimM X ct mPop) := MtR.fit mt_pop fun x xs H Q ⟨η, S, wx, ws, rp, rx, rr, h⟩ => by
  unfold mPop at h
  split at h
  · rename_i l
    split at h
    · rename_i ds q
      obtain ⟨a, vs, rfl, ha, h1, h2⟩ := live_at q rp rx
      cases rr
      split at h
      · rename_i d e
        obtain ⟨y, e1, ry⟩ := h2.get e
        rw [h2.length] at e1
        exact ⟨a, vs, y, rfl, rfl, h1, e1, write_list rp ha h2.dropLast (.d ry) h⟩
      · exact h.elim
    · exact h.elim
  · exact h.elim
theorem m_popAt : MtR X "list.pop" (SimM X ct mPopAt) := MtR.fit mt_popAt fun x xs H Q ⟨η, S, wx, ws, rp, rx, rr, h⟩ => by
  unfold mPopAt at h
  split at h
  · rename_i l i
    split at h
    · rename_i ds q
      obtain ⟨a, vs, rfl, ha, h1, h2⟩ := live_at q rp rx
      obtain ⟨y, rfl, ry⟩ := repWs1 rr
      obtain rfl := intW ry
      split at h
      · rename_i hi
        split at h
        · rename_i k ek
          split at h
          · rename_i d e
            obtain ⟨z, e1, rz⟩ := h2.get e
            exact ⟨a, vs, i, k, z, rfl, rfl, h1, hi.1, hi.2, by rw [← h2.length]; exact ek, e1, write_list rp ha (h2.eraseIdx k) (.d rz) h⟩
          · exact h.elim
        · exact h.elim
      · exact h.elim
    · exact h.elim
  · exact h.elim
theorem m_insert : MtR X "list.insert" (SimM X ct mInsert) := MtR.fit mt_insert fun x xs H Q ⟨η, S, wx, ws, rp, rx, rr, h⟩ => by
  unfold mInsert at h
  split at h
  · rename_i l i d
    split at h
    · rename_i ds q
      obtain ⟨a, vs, rfl, ha, h1, h2⟩ := live_at q rp rx
      obtain ⟨y, y2, rfl, ry, ry2⟩ := repWs2 rr
      obtain rfl := intW ry
      split at h
      · rename_i hi
        cases ry2 with
        | d ry2 => exact ⟨a, vs, i, y2, rfl, rfl, h1, by rw [← h2.length, sizeLine_eq]; exact hi.1, hi.2.1, hi.2.2, write_list rp ha (((h2.take _).append (.cons ry2 .nil)).append (h2.drop _)) (.d .none) h⟩
      · exact h.elim
    · exact h.elim
  · exact h.elim
theorem i_append {n : Nat} (ho : PE X o (tF (gx X ct) E fo)) (ha : PA X [e] (tA (gx X ct) E fa))
    (hbase : attributeBase o "append" X.env (eval o X.env) = eval o X.env := by rfl)
    (hfew : ((backTo cpos (starEach [e] X.env)).all (fun x => !x.1) && (backToKw cpos (keywordEach [] X.env)).all (fun x => x.1.isSome)
      && decide (([e] : List Expr).length + ([] : List Keyword).length + (if ([] : List Keyword).isEmpty then 0 else 1) < 30)) = true := by rfl)
    (hline : (apos.endLine == cpos.line) = true := by rfl) (hs : starEach [e] X.env = (false, eval e X.env) :: starEach [] X.env := by rfl) (hplain : (backTo cpos (starEach [] X.env)).any (·.1) = false := by rfl) :
    PE X (.Call (.Attribute o "append" apos) [e] [] cpos) (tF (gx X ct) E (fMeth mAppend fo fa)) := i_meth PySem.F.slot_list_append PySem.F.type_list_append m_append ho ha hbase hfew hline hs hplain
/-! all back to front -/
def gRev (w : W) (S : Store) : O := match asLW w S with
  | some ws => (datas ws).map fun ds => (.d (.list ds.reverse), S)
  | none => none
theorem i_rev {k : Nat} {p1 p2 p3 pos : Pos} (he : PE X e (tF (gx X ct) E fo)) : PE X (.Subscript e (.Slice none none (some (.UnaryOp .USub (.Constant (.int 1) k p1) p2)) p3) pos) (tF (gx X ct) E (f1 gRev fo)) :=
  PEw (pe_revL he) (get1 (r := fun x H1 Q => ∃ a xs, x = .ref a ∧ SqL X.K H1 a xs ∧ ∀ p, H1 p = none → Q (.ref p) (upd H1 p (.lst xs.reverse))) fun x H Q ⟨η, S, w, rp, r, h⟩ => by
    unfold gRev at h
    split at h
    · rename_i ws e
      obtain ⟨a, vs, rfl, h1, h2⟩ := asLW_ok e rp r
      cases q : datas ws with
      | none => rw [q] at h; exact h.elim
      | some ds =>
        rw [q] at h
        exact ⟨a, vs, rfl, h1, new_list rp (datas_ok q h2).reverse h⟩
    · exact h.elim)
end
end VI
set_option Elab.async false
set_option linter.all false
set_option maxRecDepth 100000
namespace VI
open PySem PySem.Spec PyProof.Rows L2

/-! a def by its body -/
/-- what a run of a body comes to -/
def toR : RF → R W
  | .next _ S => .ok (.d .none) S
  | .ret w S => .ok w S
  | _ => .bad
def startR (n : Nat) (ws : List W) : Rho := ws.map some ++ List.replicate (n - ws.length) none
def runB (n : Nat) (b : FS) (ws : List W) (S : Store) : R W := toR (b (startR n ws) S)
theorem start_rep {K : PySem.W.Frag} {η : List Addr} {H : Hp} {N : List Str} {ws : List W} {vs : List V} (r : RepWs K η H ws vs) : ERep K η H (startR N.length ws) (L2.start N vs) := by
  unfold startR L2.start
  refine ⟨by simp [r.length], fun i w h => ?_⟩
  by_cases hi : i < ws.length
  · rw [List.getElem?_append_left (by rw [List.length_map]; exact hi), List.getElem?_map] at h
    cases q : ws[i]? with
    | none => rw [q] at h; cases h
    | some u =>
      rw [q] at h
      have z : u = w := Option.some.inj (Option.some.inj h)
      subst z
      obtain ⟨v, e, rv⟩ := r.get q
      refine ⟨v, ?_, rv⟩
      rw [List.getElem?_append_left (by rw [List.length_map, ← r.length]; exact hi), List.getElem?_map, e]
      rfl
  · rw [List.getElem?_append_right (by rw [List.length_map]; omega), List.getElem?_replicate] at h
    split at h <;> cases h
abbrev NX : EX := fun _ => E0
section
variable {P : Program} {w : World} {K : PySem.W.Frag} {mg : Str → Option Value} {base : Heap} {ct : Nat → Option Addr}
/-- the context in which a body is read: none of what is raised leaves it -/
abbrev bodyX (P : Program) (w : World) (K : PySem.W.Frag) (mg : Str → Option Value) (base : Heap) (N : List Str) (qual : Str) (scope : Scope) (f : Addr) (cd : Value) (A : Around) (outer : List Env) (s : Shared) (H : Hp) (E : XK) : Cx :=
  (cxOf CX0 P w K mg base N qual scope f cd A outer s H E).nox
theorem fnG_of {k : Nat} {f : Addr} {name qual : Str} {pr : Arguments} {body : List Stmt} {sc : Scope} {dV kV doc pm cdv ctv oc : Value} {an od : Option Addr} {sl : Array (Option Value)} {N ps : List Str} {g : List W → Store → R W}
    (lk : K.lookup f = some ⟨oc, od, .func (PySem.W.fnOf name qual pr body sc dV kV doc pm an cdv ctv), sl⟩) (hcd : PySem.W.codeIn K cdv qual = true) (hS : FnScope N ps sc)
    (hb : ∀ (A : Around) (outer : List Env) (s : Shared) (H : Hp) (E : XK), Room k (A.deeper (envOfC qual sc s.heap.objs.size f cdv)) → A.guards = some [] → ∃ b : FS, (∀ ws S, ws.length = ps.length → g ws S = runB N.length b ws S) ∧
      PSs (bodyX P w K mg base N qual sc f cdv A outer s H E) body (tS ⟨K, ct⟩ NX b)) :
    FnG P w K mg base CX0 (k + 1) f (PySem.W.fnOf name qual pr body sc dV kV doc pm an cdv ctv) ps (spG ⟨K, ct⟩ ps.length g) where
  len := fun vs H Q E h => h.1
  run := by
    intro A outer s H args us vs Q E room gd env bnd rel ⟨hlen, η, S, ws, rp, rr, fin⟩
    have hin : K.In s.heap := env.mod.kin.keeps fun c o z => (env.bs c o z).1
    have nolim : s.heap.NoLimit := env.mod.nolimit.keeps fun c o z => (env.bs c o z).1
    have kinds : ∀ p ∈ ps.zip us, sc.names.lookup p.1 = some .local ∨ (sc.names.lookup p.1 = some .cell ∧ ((cellsFrom (s.heap.objs.size + 1) sc.names []).lookup p.1).isSome = true) := by
      rintro ⟨m, u⟩ hm
      rcases hS.par m (List.of_mem_zip hm).1 with z | z
      · exact Or.inl z
      · exact Or.inr ⟨z, PySem.W.cellsFrom_some _ _ _ (Or.inl z)⟩
    refine codeAny_call_function room.depth (hin _ _ lk) rfl hS.co hS.gen rfl (PySem.W.codeRec_of hin hcd) (bnd _ _ _ _ ?_)
    refine wpAny_newFunctionEnv_cells hS.kind kinds fun en hen t1 tx => ?_
    subst hen
    refine ⟨nolim.keeps tx.toInCall.keep, codeAny_func ?_⟩
    obtain ⟨b, eqb, hbody⟩ := hb A outer s H E (room.deeper _) gd
    have inv0 := inv_start (CX := CX0) (E := E) hS room.hd env hlen rel tx
    have wl : ws.length = ps.length := by rw [rr.length]; exact hlen
    rw [eqb ws S wl] at fin
    have pre : tS ⟨K, ct⟩ NX b { nx := fun _ H' => Q .non H', rt := Q } (L2.start N vs) H := by
      refine ⟨η, startR N.length ws, S, rp, start_rep rr, ?_⟩
      unfold runB at fin
      cases eb : b (startR N.length ws) S with
      | next ρ2 S2 => rw [eb] at fin; exact fun η2 H2 σ2 f2 rp2 er2 => fin η2 H2 .non f2 rp2 (.d .none)
      | ret u S2 => rw [eb] at fin; exact fin
      | brk ρ2 S2 => rw [eb] at fin; exact fin.elim
      | cnt ρ2 S2 => rw [eb] at fin; exact fin.elim
      | exc c fs ρ2 S2 => rw [eb] at fin; exact fin.elim
      | bad => rw [eb] at fin; exact fin.elim
    refine wpAny_mono ((PSs.nox hbody).run [] t1 (L2.start N vs) H _ inv0 pre) (fun fl t2 hf => ?_) fun e t2 hf => hf
    cases fl with
    | ret u =>
      obtain ⟨v, σ2, H2, J, rv, q⟩ := hf
      exact ⟨v, H2, J.os, J.bare, J.base, J.hok, rv, q⟩
    | next =>
      obtain ⟨σ2, H2, J, q⟩ := hf
      exact ⟨V.non, H2, J.os, J.bare, J.base, J.hok, rfl, q⟩
    | brk => exact False.elim (let ⟨_, _, _, q⟩ := hf; q)
    | cont => exact False.elim (let ⟨_, _, _, q⟩ := hf; q)
theorem FunD.okG {x qual : Str} {pr : Arguments} {body : List Stmt} {sc : Scope} {dvs : List V} {kws : List (Str × V)} {f : Addr} {fd : FuncData} {N ps : List Str} {k : Nat} {g : List W → Store → R W} (F : FunD K x qual pr body sc dvs kws f fd) (hS : FnScope N ps sc)
    (hb : ∀ (cdv : Value) (A : Around) (outer : List Env) (s : Shared) (H : Hp) (E : XK), Room k (A.deeper (envOfC qual sc s.heap.objs.size f cdv)) → A.guards = some [] → ∃ b : FS, (∀ ws S, ws.length = ps.length → g ws S = runB N.length b ws S) ∧
      PSs (bodyX P w K mg base N qual sc f cdv A outer s H E) body (tS ⟨K, ct⟩ NX b)) : FnG P w K mg base CX0 (k + 1) f fd ps (spG ⟨K, ct⟩ ps.length g) := by
  obtain ⟨oc, od, dV, kV, doc, pm, an, cdv, cv, sl, rfl, lk, hcd, _, _⟩ := F.ex
  exact fnG_of lk hcd hS fun A outer s H E r gd => hb cdv A outer s H E r gd
/-- no room: nothing is promised -/
theorem fnG_zero {k : Nat} {f : Addr} {fd : FuncData} {ps : List Str} {g : List W → Store → R W} (h : ∀ ws S, g ws S = .bad) : FnG P w K mg base CX0 k f fd ps (spG ⟨K, ct⟩ ps.length g) where
  len := fun vs H Q E h => h.1
  run := fun A outer s H args us vs Q E _ _ _ _ _ ⟨_, η, S, ws, rp, rr, fin⟩ => by
    rw [h] at fin
    exact fin.elim
end
end VI
set_option Elab.async false
set_option linter.all false
set_option maxRecDepth 100000
namespace VI
open PySem PySem.Spec PyProof.Rows L2

/-! the end: the law called by the row -/
/-- the row's question of the run -/
abbrev Asked (s1 : Shared) : Result → Shared → Prop := fun r t => r = .ok (.ret (.bool true)) ∧ OldK s1.heap t.heap ∧ t.os = s1.os ∧ AllBare t.gens
def scriptW (ns : List Int) : W := .fro (ns.map PyData.int)
theorem ints_rep {K : PySem.W.Frag} {η : List Addr} {H : Hp} : ∀ ns : List Int, RepDs K η H (ns.map PyData.int) (ns.map V.int)
  | [] => .nil
  | n :: ns => .cons (.int n) (ints_rep ns)
theorem script_rep {K : PySem.W.Frag} {H : Hp} {a : Addr} {ns : List Int} (hO : Only H) (hS : SqL K H a (ns.map V.int)) : RepW K [] H (scriptW ns) (.ref a) := by
  refine .fro ?_ (ints_rep ns)
  rcases hS with (z | ⟨o, z⟩) | z
  · rcases hO a with y | ⟨o, xs, y⟩
    · rw [y] at z; cases z
    · rw [y] at z; cases z
  · exact .inl ⟨o, z⟩
  · exact .inr z
section
variable {P : Program} {w : World} {K : PySem.W.Frag} {mg mb : Str → Option Value} {k : Nat} {fa a : Addr} {fd : FuncData} {x : Str} {ct : Nat → Option Addr} {g : List W → Store → R W} {s1 : Shared} {vs : List Value} {ns : List Int}
/-- from a heap in which nothing but the script is told of -/
theorem ask_from (KX : K.In s1.heap) (nsM : s1.heap.Ns mainGlobals mg) (nsB : s1.heap.Ns builtinsNs mb) (hbb : ∀ x : Str, x ≠ "__name__" → mb x = bootBuiltins x) (lim : s1.heap.NoLimit) (hg : s1.gens = #[])
    (ha : s1.heap.get? a = some { cls := .type "list", data := .seq vs.toArray }) (hr : Room k callerA)
    (F : ∀ base : Heap, K.In base → base.Ns mainGlobals mg → FnG P w K mg base CX0 k fa fd [x] (spG ⟨K, ct⟩ 1 g)) (bnd : ∀ (s : Shared) (u : Value), BindsTo s fd ⟨[u], []⟩ [(x, u)])
    (good : ∃ S', g [scriptW ns] [] = .ok (.d (.bool true)) S') (H : Hp) (hO : Only H) (hS : SqL K H a (ns.map V.int)) (hok : HOk P w H s1.heap) (only : ∀ c, H c ≠ none → c = a) (apart : H a ≠ none → K.lookup a = none) :
    codeAny (model P w) callerA (.call (.ref fa) ⟨[.ref a], []⟩) (Asked s1) s1 := by
  have seen : ∀ {c : Addr} {o : Obj}, s1.heap.get? c = some o → H c = none → (hidT s1.heap H).get? c = some o := fun z n => hidT_get z n
  have free : ∀ {c : Addr} {o : Obj}, s1.heap.get? c = some o → (∀ us n, o.data ≠ .seq us n) → H c = none := fun {c o} z nd => by
    cases q : H c with
    | none => rfl
    | some u =>
      obtain rfl : c = a := only c (by rw [q]; intro y; cases y)
      rw [ha] at z
      cases z
      exact (nd _ _ rfl).elim
  have spaces : ∀ {c : Addr} {m : Str → Option Value}, s1.heap.Ns c m → (hidT s1.heap H).Ns c m := fun {c m} ⟨o, es, ep, z, dz, rz⟩ => ⟨o, es, ep, seen z (free z fun us n y => by rw [dz] at y; cases y), dz, rz⟩
  have inK : K.In (hidT s1.heap H) := fun c o z => seen (KX c o z) (by
    cases q : H c with
    | none => rfl
    | some u =>
      obtain rfl : c = a := only c (by rw [q]; intro y; cases y)
      rw [apart (by rw [q]; intro y; cases y)] at z
      cases z)
  have md : L2.Mod K mg (hidT s1.heap H) := ⟨inK, spaces nsM, ⟨mb, spaces nsB, hbb⟩, let ⟨mc, z1, z2⟩ := lim; ⟨mc, spaces z1, z2⟩⟩
  have env : Env0 P w K mg (hidT s1.heap H) callerA [] s1 H := ⟨rfl, md, fun c o z => of_hidT z, Nat.le_of_eq (hidT_size _ _), trivial, fun c hc => (by cases hc), hok, .of_eq hg⟩
  obtain ⟨S', eg⟩ := good
  have rp : Rp K [] H [] := ⟨rfl, List.nodup_nil, fun l c o z => by simp at z, fun l o z => by simp at z⟩
  have pre : spG ⟨K, ct⟩ 1 g [.ref a] H (fun v _ => v = .bl true) E0 := ⟨rfl, [], [], [scriptW ns], rp, .cons (script_rep hO hS) .nil, by
    rw [eg]
    intro η2 H2 v f2 rp2 r2
    cases r2 with
    | d r2 => cases r2; rfl⟩
  refine codeAny_mono ((F _ inK (spaces nsM)).run callerA [] s1 H ⟨[.ref a], []⟩ [.ref a] [.ref a] _ _ hr rfl env (bnd s1 (.ref a)) (.cons rfl .nil) pre) fun r t h => ?_
  cases r with
  | error e => exact False.elim h
  | ok fl =>
    cases fl with
    | next => exact False.elim h
    | brk => exact False.elim h
    | cont => exact False.elim h
    | ret u =>
      obtain ⟨v, H2, os, bare, un, hok2, rel, q⟩ := h
      have qv : v = .bl true := q
      subst qv
      obtain rfl : u = Value.bool true := rel
      refine ⟨rfl, OldK.of_keep fun c o z => ?_, os, bare⟩
      cases q : H c with
      | none => exact un.keep c o z q (by intro y; cases y) (by simp)
      | some u =>
        rcases hO c with y | ⟨ob, xs, y⟩
        · rw [q] at y; cases y
        · obtain ⟨e1, _⟩ := hok c _ y
          obtain ⟨e2, _⟩ := hok2 c _ (un.frzs c ob _ y)
          rw [z] at e1
          cases e1
          exact e2
theorem ask (KX : K.In s1.heap) (nsM : s1.heap.Ns mainGlobals mg) (nsB : s1.heap.Ns builtinsNs mb) (hbb : ∀ x : Str, x ≠ "__name__" → mb x = bootBuiltins x) (lim : s1.heap.NoLimit) (hg : s1.gens = #[])
    (ha : s1.heap.get? a = some { cls := .type "list", data := .seq vs.toArray }) (hi : IntsAre vs ns) (hl : ns.length ≤ sizeLine) (hr : Room k callerA)
    (F : ∀ base : Heap, K.In base → base.Ns mainGlobals mg → FnG P w K mg base CX0 k fa fd [x] (spG ⟨K, ct⟩ 1 g)) (bnd : ∀ (s : Shared) (u : Value), BindsTo s fd ⟨[u], []⟩ [(x, u)])
    (good : ∃ S', g [scriptW ns] [] = .ok (.d (.bool true)) S') : codeAny (model P w) callerA (.call (.ref fa) ⟨[.ref a], []⟩) (Asked s1) s1 := by
  have rv := vals_ints hi
  have run := fun H => ask_from KX nsM nsB hbb lim hg ha hr F bnd good H
  cases hk : K.lookup a with
  | some o =>
    have z := KX a o hk
    rw [ha] at z
    cases z
    refine run (fun _ => none) (fun _ => Or.inl rfl) (Or.inr ⟨_, vs.toArray, _, hk, rfl, rfl, rfl, ?_, ?_⟩) (fun c u y => nomatch y) (fun c y => absurd rfl y) fun y => absurd rfl y
    · rw [List.size_toArray, hi.length]; exact hl
    · simpa using rv
  | none =>
    have at_a : ∀ c, (fun c => if c = a then some (HO.frz { cls := .type "list", data := .seq vs.toArray } (.lst (ns.map V.int))) else none) c ≠ none → c = a := fun c y => by
      by_cases h : c = a
      · exact h
      · exact absurd (if_neg h) y
    refine run (fun c => if c = a then some (.frz { cls := .type "list", data := .seq vs.toArray } (.lst (ns.map V.int))) else none) (fun c => ?_) (Or.inl (Or.inr ⟨_, if_pos rfl⟩)) (fun c u y => ?_) at_a fun _ => hk
    · by_cases h : c = a
      · exact Or.inr ⟨_, _, if_pos h⟩
      · exact Or.inl (if_neg h)
    · obtain rfl : c = a := at_a c (by rw [y]; intro n; cases n)
      have y2 := (if_pos rfl).symm.trans y
      cases y2
      exact ⟨ha, by rw [List.length_map]; exact hl, vs, _, rv, ha⟩
/-- what the row leaves, from the law's function -/
theorem walk_G {l : PySem.W.OpenLaw} {n : Nat} {q : Program} {loose : List Str} {XP : (Str → Option Value) → Heap → Prop} {YP : World → Heap → Prop} {d : DefRec}
    (hn : l.most = some n) (hn2 : n ≤ sizeLine) (hdf : d.params.defaults = []) (hr : Room k callerA)
    (F : ∀ (w : World) (mg : Str → Option Value) (fa : Addr) (h : Heap), YP w h → h.Ns mainGlobals mg → mg d.name = some (.ref fa) →
      ∃ (K : PySem.W.Frag) (fd : FuncData), K.In h ∧ (∀ (s : Shared) (u : Value), BindsTo s fd ⟨[u], []⟩ [(x, u)]) ∧
        ∀ base : Heap, K.In base → base.Ns mainGlobals mg → FnG l.prog w K mg base CX0 k fa fd [x] (spG ⟨K, ct⟩ 1 g))
    (good : ∀ ns : List Int, ns.length ≤ n → (∀ z ∈ ns, Builtin.Int.intBits z ≤ 1048576) → ∃ S', g [scriptW ns] [] = .ok (.d (.bool true)) S') :
    PySem.W.WalkO q loose XP YP l.row.toRowW d [] (fun f vs => PySem.call f vs) :=
  Att.attach_callB hn hdf fun w s₀ s1 mg mb fa o pm cd doc a vs ns G Y ho hd hcd hmg hobj hints hlen hbits hg => by
    obtain ⟨K, fd, KX, hb, hF⟩ := F w mg fa _ Y G.T.g hmg
    exact ask KX G.T.g G.T.b G.T.builtins G.T.nolimit hg hobj hints (Nat.le_trans hlen hn2) hr hF hb (good ns hlen hbits)
end
end VI
set_option Elab.async false
set_option linter.all false
set_option maxRecDepth 100000
namespace VI
open PySem PySem.Spec PyProof.Rows L2

/-! minus -/
def gNeg (w : W) (S : Store) : O := match w with
  | .d (.int i) => some (.d (.int (-i)), S)
  | _ => none
section
variable {X : Cx} {ct : Nat → Option Addr} {E : EX}
theorem i_neg {e : Expr} {pos : Pos} {f : FE} (he : PE X e (tF (gx X ct) E f)) : PE X (.UnaryOp .USub e pos) (tF (gx X ct) E (f1 gNeg f)) :=
  PEw (pe_un un_neg he) (get1 (r := rU fun i => .int (-i)) fun x H Q ⟨η, S, w, rp, r, h⟩ => by
    unfold gNeg at h
    split at h
    · obtain rfl := intW r
      exact ⟨_, rfl, same_val rp (.d (.int _)) h⟩
    · exact h.elim)
/-! o[i] op= e, a live list, i not below 0 -/
theorem get_live : PGet X fun o i H Q => ∃ p xs k v, o = .ref p ∧ i = .int k ∧ SqL X.K H p xs ∧ 0 ≤ k ∧ k < 2 ^ 63 ∧ xs[k.toNat]? = some v ∧ Q v H := by
  intro pins s σ H o i ov iv Q I ro ri ⟨p, xs, k, v, ho, hi, hq, h0, h1, hv, q⟩
  subst ho
  subst hi
  cases ro
  obtain ⟨t, rfl⟩ := ri
  obtain ⟨its, r, pl, hz⟩ := I.list hq
  obtain ⟨u, hu, ru⟩ := r.get hv
  exact wpAny_getItem_list pl.isList h0 h1 (by simpa using hu) ⟨v, H, I, ru, q⟩
def gAt (o i : W) (S : Store) : Option PyData := match o, i with
  | .loc l, .d (.int k) => match S[l]? with
    | some (.lst xs) => if 0 ≤ k ∧ k < 2 ^ 63 then xs[k.toNat]? else none
    | _ => none
  | _, _ => none
def fAugAt (fo fi : FE) (g : W → W → Store → O) (fe : FE) : FS := fun ρ S => toS ρ (fo ρ S) fun ov S1 => toS ρ (fi ρ S1) fun iw S2 => match gAt ov iw S2 with
  | some old => toS ρ (fe ρ S2) fun ev S3 => match g (.d old) ev S3 with
    | some (z, S4) => match gSet ov iw z S4 with
      | some S5 => .next ρ S5
      | none => .bad
    | none => .bad
  | none => .bad
theorem gAt_ok {K : PySem.W.Frag} {η : List Addr} {H : Hp} {S : Store} {wo wi : W} {o i : V} {d : PyData} (e : gAt wo wi S = some d) (rp : Rp K η H S) (ro : RepW K η H wo o) (ri : RepW K η H wi i) :
    ∃ p xs k v, o = .ref p ∧ i = .int k ∧ SqL K H p xs ∧ 0 ≤ k ∧ k < 2 ^ 63 ∧ xs[k.toNat]? = some v ∧ RepD K η H d v := by
  unfold gAt at e
  split at e
  · rename_i l k
    obtain rfl := intW ri
    split at e
    · rename_i ds q
      obtain ⟨a, vs, rfl, ha, h1, h2⟩ := live_at q rp ro
      split at e
      · rename_i hk
        obtain ⟨v, ev, rv⟩ := h2.get e
        exact ⟨a, vs, k, v, rfl, rfl, SqL.of h1, hk.1, hk.2, ev, rv⟩
      · cases e
    · cases e
  · cases e
theorem s_augAt {o i e : Expr} {op : Operator} {tpos pos : Pos} {fo fi fe : FE} {g : W → W → Store → O} (hop : OpR X (inplaceOp op) (Sim2 X ct g)) (ho : PE X o (tF (gx X ct) E fo)) (hi : PE X i (tF (gx X ct) E fi)) (he : PE X e (tF (gx X ct) E fe))
    (ha : ∀ ov iv new, augStore i ov iv new = (do holding [new, ov, iv] (setItem ov iv new); release [new, ov, iv] []; pure .next) := by intros; rfl) : PS X (.AugAssign (.Subscript o i tpos) op e pos) (tS (gx X ct) E (fAugAt fo fi g fe)) :=
  PSw (ps_augS ho hi get_live he (fun pins s σ H a b v u Q I ra rb q => hop pins s σ H a b v u Q I ra rb q) set_list ha) fun D σ H ⟨η, ρ, S, rp, er, h⟩ =>
  ⟨η, ρ, S, rp, er, FinR.mono (FinS.bind er h) fun v1 H1 ⟨η1, w1, S1, f1, rp1, r1, h1⟩ =>
    ⟨η1, ρ, S1, rp1, er.fu f1, FinR.mono (FinS.bind (er.fu f1) h1) fun v2 H2 ⟨η2, w2, S2, f2, rp2, r2, h2⟩ => by
      split at h2
      · rename_i old eo
        obtain ⟨p, xs, k, v, ev1, ev2, hq, k0, k1, hv, rv⟩ := gAt_ok eo rp2 (RepW.fu f2 _ _ r1) r2
        refine ⟨p, xs, k, v, ev1, ev2, hq, k0, k1, hv, η2, ρ, S2, rp2, (er.fu f1).fu f2, FinR.mono (FinS.bind ((er.fu f1).fu f2) h2) fun v3 H3 ⟨η3, w3, S3, f3, rp3, r3, h3⟩ => ?_⟩
        refine ⟨η3, S3, .d old, w3, rp3, .d (RepD.fu f3 _ _ rv), r3, ?_⟩
        cases eg : g (.d old) w3 S3 with
        | none => rw [eg] at h3; exact h3.elim
        | some zz =>
          obtain ⟨z, S4⟩ := zz
          rw [eg] at h3
          dsimp only at h3
          intro η4 H4 v4 f4 rp4 r4
          cases es : gSet w1 w2 z S4 with
          | none => rw [es] at h3; exact h3.elim
          | some S5 =>
            rw [es] at h3
            exact set_key es rp4 (RepW.fu ((f2.trans f3).trans f4) _ _ r1) (RepW.fu (f3.trans f4) _ _ r2) r4 fun η5 H5 f5 rp5 => h3 η5 H5 σ (f4.trans f5) rp5 (((((er.fu f1).fu f2).fu f3).fu f4).fu f5)
      · exact h2.elim⟩⟩
end
/-! all back to front, a tuple -/
theorem places_down (n : Nat) : Builtin.Slice.slicePlaces ((n : Int) - 1) (-1) (-1) = n := by
  unfold Builtin.Slice.slicePlaces
  rw [if_neg (by omega)]
  by_cases h : (n : Int) - 1 > -1
  · rw [if_pos h]
    have e : (-(-1 : Int)) = 1 := rfl
    rw [e, Int.ediv_one]
    omega
  · rw [if_neg h]
    omega
theorem pick_down (xs : Array Value) : ((List.range xs.size).filterMap fun (m : Nat) => xs[(((xs.size : Int) - 1) + (m : Int) * -1).toNat]?) = xs.toList.reverse := by
  have key : ∀ k, k ≤ xs.size → ((List.range k).filterMap fun (m : Nat) => xs[(((xs.size : Int) - 1) + (m : Int) * -1).toNat]?) = xs.toList.reverse.take k := fun k => by
    induction k with
    | zero => intro _; rfl
    | succ k ih =>
      intro hk
      have e1 : (((xs.size : Int) - 1) + (k : Int) * -1).toNat = xs.size - 1 - k := by omega
      have lt : xs.size - 1 - k < xs.size := by omega
      rw [List.range_succ, List.filterMap_append, ih (by omega), List.take_add_one]
      congr 1
      rw [List.getElem?_reverse (by rw [Array.length_toList]; omega), Array.length_toList]
      simp only [List.filterMap_cons, List.filterMap_nil]
      rw [e1, Array.getElem?_toList, Array.getElem?_eq_getElem lt]
      rfl
  rw [key xs.size (Nat.le_refl _), List.take_of_length_le (by rw [List.length_reverse, Array.length_toList]; exact Nat.le_refl _)]
section
variable {P : Program} {w : World} {A : Around} {E : Value → Shared → Prop} {s : Shared}
theorem applied_down {sl : Addr} {vs : Value} {n : Nat} {Q : Int × Int × Nat → Shared → Prop} (hs : s.heap.IsSliceOf sl .none .none vs) (ps : IsPart vs (some (-1))) (h : Q ((n : Int) - 1, -1, n) s) :
    wpAny (model P w) A (Builtin.Slice.sliceApplied (.ref sl) (pure (n : Int))) Q E s := by
  obtain ⟨os, g, c, d⟩ := id hs
  unfold Builtin.Slice.sliceApplied Builtin.Slice.sliceFields
  refine wpAny_bind (wpAny_bind (wpAny_field g d (x := .none) rfl (wpAny_bind (wpAny_field g d (x := .none) rfl (wpAny_bind (wpAny_field g d (x := vs) rfl (wpAny_pure ?_)))))))
  refine wpAny_bind (HT.slicePart_ ps ?_)
  show wpAny _ _ (if ((-1 : Int) == 0) = true then _ else _) _ _ s
  rw [if_neg (by decide)]
  refine wpAny_bind (PyProof.Rows.slicePart_none (wpAny_bind (PyProof.Rows.slicePart_none (wpAny_bind (wpAny_pure ?_)))))
  have e : Builtin.Slice.sliceAdjust none none (-1) (n : Int) = ((n : Int) - 1, -1) := by
    unfold Builtin.Slice.sliceAdjust
    rfl
  show wpAny _ _ (match Builtin.Slice.sliceAdjust none none (-1) (n : Int) with | (lo, hi) => pure (lo, (-1 : Int), Builtin.Slice.slicePlaces lo hi (-1))) _ _ s
  rw [e]
  show wpAny _ _ (pure ((n : Int) - 1, (-1 : Int), Builtin.Slice.slicePlaces ((n : Int) - 1) (-1) (-1))) _ _ s
  rw [places_down]
  exact wpAny_pure h
theorem item_tupDown {t sl : Addr} {items : Array Value} {vs : Value} {Q : Value → Shared → Prop} (ht : IsTup s.heap t items) (hs : s.heap.IsSliceOf sl .none .none vs) (ps : IsPart vs (some (-1)))
    (h : Q (.ref s.heap.objs.size) { s with heap := s.heap.push { cls := .type "tuple", data := .seq items.toList.reverse.toArray } }) (hz : items.size ≤ sizeLine) : wpAny (model P w) A (getItem (.ref t) (.ref sl)) Q E s := by
  have fits : sizeOk (.seq items.toList.reverse.toArray) := by
    show items.toList.reverse.toArray.size ≤ sizeLine
    rw [List.size_toArray, List.length_reverse, Array.length_toList]
    exact hz
  have isS : s.TypeIs (.ref sl) "slice" := let ⟨os, g, c, _⟩ := id hs; ⟨os, g, c⟩
  unfold getItem
  try with_reducible refine wpAny_holding ?_
  first | refine wpAny_bind (wpAny_pure ?_) | skip
  refine wpAny_bind (wpAny_sequenceKey ht.typeIs (by decide) ?_)
  refine wpAny_bind (wpAny_callSpecial?_slot (name := Str.ofString "__getitem__") ht.typeIs PyProof.Rows.slot_tuple_getitem (wpAny_call_entry PyProof.Rows.slot_tuple_getitem ht.typeIs PyProof.Rows.entry_tuple_getitem ?_ (PyProof.Rows.args_tuple_getitem _ _)))
  show wpAny _ _ (Builtin.Tuple.tupleItemsOf (.ref t) >>= _) _ _ s
  refine wpAny_bind (PyProof.Rows.tupleItemsOf_ ht (wpAny_bind (wpAny_typeOf isS ?_)))
  rw [if_pos (by decide)]
  refine wpAny_bind (applied_down hs ps ?_)
  have no : ¬ ((((items.size : Int) - 1) == 0 && (-1 : Int) == 1 && items.size == items.size) = true) := by
    intro q
    rw [Bool.and_eq_true, Bool.and_eq_true] at q
    exact absurd q.1.2 (by decide)
  show wpAny _ _ (if ((((items.size : Int) - 1) == 0 && (-1 : Int) == 1 && items.size == items.size) = true) then _ else _) _ _ s
  rw [if_neg no, pick_down]
  first
    | exact wpAny_bind (m := Builtin.Tuple.tupleExact _) (wpAny_newObj_type (wpAny_pure ⟨_, rfl, wpAny_pure h⟩) fits)
    | exact wpAny_bind (m := Builtin.Tuple.tupleExact _) (wpAny_newObj_type (wpAny_bind (wpAny_pure (wpAny_pure ⟨_, rfl, wpAny_pure h⟩))) fits)
    | exact wpAny_bind (wpAny_bind (m := Builtin.Tuple.tupleExact _) (wpAny_newObj_type (wpAny_pure (wpAny_pure ⟨_, rfl, wpAny_pure h⟩)) fits))
    | exact wpAny_bind (wpAny_bind (m := Builtin.Tuple.tupleExact _) (wpAny_newObj_type (wpAny_pure ⟨_, rfl, wpAny_pure h⟩) fits))
end
section
variable {X : Cx} {ct : Nat → Option Addr} {E : EX}
def tRevB (K : PySem.W.Frag) (te : TE) : TE := fun σ H Q => te σ H fun x H1 => (∃ a xs, x = .ref a ∧ SqL K H1 a xs ∧ ∀ p, H1 p = none → Q (.ref p) (upd H1 p (.lst xs.reverse))) ∨ ∃ a xs, x = .ref a ∧ SqT K H1 a xs ∧ ∀ p, H1 p = none → Q (.ref p) (upd H1 p (.tup xs.reverse))
theorem pe_revB {e : Expr} {te : TE} {k : Nat} {p1 p2 p3 pos : Pos} (he : PE X e te) : PE X (.Subscript e (.Slice none none (some (.UnaryOp .USub (.Constant (.int 1) k p1) p2)) p3) pos) (tRevB X.K te) := ⟨fun pins s σ H Q I h => by
  refine Subscript_ (thn (he.run pins s σ H _ I h) fun v s1 ⟨x, H1, I1, r1, q1⟩ => ?_)
  have step : PO X (some (.UnaryOp .USub (.Constant (.int 1) k p1) p2)) (tPart (tUn (rU fun i => .int (-i)) (tC (.int 1)))) := po_some (pe_un un_neg pe_int)
  refine wpAny_Slice (thn (po_none.run pins s1 σ H1 (fun o H2 => o = none ∧ H2 = H1) I1 ⟨rfl, rfl⟩) fun vl s2 ⟨o2, H2, I2, pl, el, e2⟩ => ?_)
  subst el e2
  refine thn (po_none.run pins s2 σ H2 (fun o H3 => o = none ∧ H3 = H2) I2 ⟨rfl, rfl⟩) fun vu s3 ⟨o3, H3, I3, pu, eu, e3⟩ => ?_
  subst eu e3
  refine thn (step.run pins s3 σ H3 (fun o H4 => o = some (-1) ∧ H4 = H3) I3 ⟨1, rfl, -1, rfl, rfl, rfl⟩) fun vs s4 ⟨o4, H4, I4, ps, eo, e4⟩ => ?_
  subst eo e4
  have I5 : Inv X pins σ H4 { s4 with heap := s4.heap.push { cls := .type "slice", data := .fields #[vl, vu, vs] } } := I4.kept (t' := s4.toks) fun b ob z => Heap.get?_push_of_some _ z
  rcases q1 with ⟨a, xs, ex, hx, q⟩ | ⟨a, xs, ex, hx, q⟩
  · subst ex
    cases r1
    obtain ⟨its, r, ht, hz⟩ := I5.list hx
    have hl := r.length
    show wpAny (model X.prog X.w) X.A (subscriptTail e (.Slice none none (some (.UnaryOp .USub (.Constant (.int 1) k p1) p2)) p3) (.ref a) (.ref s4.heap.objs.size)) (EP X pins σ Q) X.xe { s4 with heap := s4.heap.push { cls := .type "slice", data := .fields #[vl, vu, vs] } }
    refine tail_any (ops := [.ref a, .ref s4.heap.objs.size]) ht.isList.typeIs PySem.slot_list_getitem.lookup ?_ (by with_unfolding_all rfl)
    refine wpAny_getItem_list_slice ht.isList (Heap.IsSliceOf.new _ vl vu vs) pl pu ps (by decide) ?_ (by rw [List.size_toArray]; omega)
    rw [PySem.W.krv_pick]
    exact ⟨.ref _, _, I5.laid (t' := s4.toks) (o := .lst xs.reverse) (fun b ob z => Heap.get?_push_of_some _ z) (Nat.le_refl _) ⟨by rw [List.length_reverse]; exact hz, _, 0, r.reverse, Heap.get?_push_size _ rfl⟩, rfl, q _ (I5.hok.fresh (Nat.le_refl _))⟩
  · subst ex
    cases r1
    cases pl
    cases pu
    obtain ⟨its, r, ht, hz⟩ := I5.tuple hx
    have hl := r.length
    show wpAny (model X.prog X.w) X.A (subscriptTail e (.Slice none none (some (.UnaryOp .USub (.Constant (.int 1) k p1) p2)) p3) (.ref a) (.ref s4.heap.objs.size)) (EP X pins σ Q) X.xe { s4 with heap := s4.heap.push { cls := .type "slice", data := .fields #[.none, .none, vs] } }
    refine tail_any (ops := [.ref a, .ref s4.heap.objs.size]) ht.typeIs PyProof.Rows.slot_tuple_getitem.lookup ?_ (by with_unfolding_all rfl)
    refine item_tupDown ht (Heap.IsSliceOf.new _ .none .none vs) ps ?_ (by rw [List.size_toArray]; omega)
    exact ⟨.ref _, _, I5.laid (t' := s4.toks) (o := .tup xs.reverse) (fun b ob z => Heap.get?_push_of_some _ z) (Nat.le_refl _) ⟨by rw [List.length_reverse]; exact hz, _, r.reverse, IsTup.new _ _⟩, rfl, q _ (I5.hok.fresh (Nat.le_refl _))⟩⟩
def gRevB (w : W) (S : Store) : O := match asTW w with
  | some ws => some (mkT ws.reverse, S)
  | none => gRev w S
theorem RepWs.reverse {K : PySem.W.Frag} {η : List Addr} {H : Hp} : ∀ {ws : List W} {vs : List V}, RepWs K η H ws vs → RepWs K η H ws.reverse vs.reverse
  | [], _, h => by cases h; exact .nil
  | x :: xs, _, h => by
    cases h with
    | cons h1 h2 =>
      rw [List.reverse_cons, List.reverse_cons]
      exact (RepWs.reverse h2).append (.cons h1 .nil)
theorem i_revB {e : Expr} {f : FE} {k : Nat} {p1 p2 p3 pos : Pos} (he : PE X e (tF (gx X ct) E f)) : PE X (.Subscript e (.Slice none none (some (.UnaryOp .USub (.Constant (.int 1) k p1) p2)) p3) pos) (tF (gx X ct) E (f1 gRevB f)) :=
  PEw (pe_revB he) (get1 (r := fun x H1 Q => (∃ a xs, x = .ref a ∧ SqL X.K H1 a xs ∧ ∀ p, H1 p = none → Q (.ref p) (upd H1 p (.lst xs.reverse))) ∨ ∃ a xs, x = .ref a ∧ SqT X.K H1 a xs ∧ ∀ p, H1 p = none → Q (.ref p) (upd H1 p (.tup xs.reverse))) fun x H Q ⟨η, S, w, rp, r, h⟩ => by
    unfold gRevB at h
    split at h
    · rename_i ws e
      obtain ⟨a, vs, rfl, h1, h2⟩ := asTW_ok e r
      exact .inr ⟨a, vs, rfl, h1, new_mkT rp h2.reverse h⟩
    · unfold gRev at h
      split at h
      · rename_i ws e
        obtain ⟨a, vs, rfl, h1, h2⟩ := asLW_ok e rp r
        cases q : datas ws with
        | none => rw [q] at h; exact h.elim
        | some ds =>
          rw [q] at h
          exact .inl ⟨a, vs, rfl, h1, new_list rp (datas_ok q h2).reverse h⟩
      · exact h.elim)
end
end VI
set_option Elab.async false
set_option linter.all false
set_option maxRecDepth 100000
namespace VI
open PySem PySem.Spec PyProof.Rows L2

/-! calls of the program's own defs -/
/-- a def of the module: the name x gives it, it does g -/
def Callee (P : Program) (w : World) (K : PySem.W.Frag) (mg : Str → Option Value) (base : Heap) (ct : Nat → Option Addr) (k : Nat) (x : Str) (ps : List Str) (g : List W → Store → R W) : Prop :=
  ∃ (f : Addr) (fd : FuncData), FnG P w K mg base CX0 k f fd ps (spG ⟨K, ct⟩ ps.length g) ∧ mg x = some (.ref f) ∧ PySem.W.keepIn K (.ref f) = true ∧ Binds K fd ps []
section
variable {X : Cx} {ct : Nat → Option Addr} {k n : Nat} {x : Str} {ps : List Str} {g : List W → Store → R W} {p pos : Pos} {e : Expr} {es : List Expr} {fa : FA}
theorem cCall (C : Callee X.prog X.w X.K X.mg X.base ct k x ps g) (hr : Room k X.A) (hgd : X.A.guards = some []) (ha : PA X (e :: es) (tA (gx X ct) NX fa)) (hn : ps.length = n := by rfl) (hg : Gl X x := by rfl) (hdb : (x == ("__debug__" : Str)) = false := by decide)
    (he : starEach (e :: es) X.env = (false, eval e X.env) :: starEach es X.env := by rfl) (hpl : (backTo pos (starEach es X.env)).any (·.1) = false := by rfl) : PE X (.Call (.Name x p) (e :: es) [] pos) (tF (gx X ct) NX (fCall n g fa)) := by
  obtain ⟨f, fd, F, m, kp, b⟩ := C
  subst hn
  exact i_call F hr hgd hg m kp b pass0 ha hdb he hpl
theorem cCallL (C : Callee X.prog X.w X.K X.mg X.base ct k x ps g) (hr : Room k X.A) (hgd : X.A.guards = some []) (ha : PA X (e :: es) (tA (gx X ct) NX fa)) (hn : ps.length = n := by rfl) (hg : Gl X x := by rfl) (hdb : (x == ("__debug__" : Str)) = false := by decide)
    (he : starEach (e :: es) X.env = (false, eval e X.env) :: starEach es X.env := by rfl) (hpl : (backTo pos (starEach es X.env)).any (·.1) = false := by rfl) : PE X (.Call (.Name x p) (e :: es) [] pos) (tF (gx X ct) NX (fCallL n g fa)) := by
  obtain ⟨f, fd, F, m, kp, b⟩ := C
  subst hn
  exact i_callL F hr hgd hg m kp b pass0 ha hdb he hpl
end
theorem hu64 {k : Nat} {A : Around} (r : Room k A) : A.units + 64 < cLine := by have := r.un; omega
theorem hu65 {k : Nat} {A : Around} (r : Room k A) : A.units + 65 < cLine := by have := r.un; omega
/-! a comprehension's names -/
def blkB (N : List Str) (sc scope : Scope) (own : List (Str × Nat)) : Bool :=
  decide (scope.kind = .function) && scope.names.all (fun y => decide (scope.names.lookup y.1 = some y.2)) && own.all (fun p => decide (N[p.2]? = some p.1)) &&
    scope.names.all (fun y => !decide (y.2 = .free) || (decide (sc.names.lookup y.1 = some .cell) || decide (sc.names.lookup y.1 = some .free))) &&
    scope.names.all (fun y => !(decide (y.2 = .local) || decide (y.2 = .cell)) || (decide (y.1 ∈ own.map (·.1)) || decide (y.1 ∉ N)))
theorem blk_of {N : List Str} {sc scope : Scope} {own : List (Str × Nat)} (h : blkB N sc scope own = true) : BlkOk N sc scope own := by
  unfold blkB at h
  simp only [Bool.and_eq_true, List.all_eq_true, decide_eq_true_eq, Bool.or_eq_true, Bool.not_eq_true', decide_eq_false_iff_not] at h
  obtain ⟨⟨⟨⟨h1, h2⟩, h3⟩, h4⟩, h5⟩ := h
  refine ⟨h1, fun y m => h2 y m, fun p m => h3 p m, fun y m e => ?_, fun y m e => ?_⟩
  · rcases h4 y m with z | z
    · exact absurd e z
    · exact z
  · rcases h5 y m with z | z
    · rw [Bool.or_eq_false_iff, decide_eq_false_iff_not, decide_eq_false_iff_not] at z
      rcases e with e | e
      · exact absurd e z.1
      · exact absurd e z.2
    · exact z

/-! a, b = e1, e2 -/
def fPar (i j : Nat) (a : FA) : FS := fun ρ S => toS ρ (a ρ S) fun ws S1 => match ws with
  | [u, v] => .next ((ρ.set i (some u)).set j (some v)) S1
  | _ => .bad
theorem s_par {X : Cx} {ct : Nat → Option Addr} {E : EX} (i j : Nat) {x y : Str} {a b : Expr} {fa : FA} {px py pt pos : Pos} {kt k2 : Nat} {pt2 : Pos} (hc : X.calm = true) (hN : X.N.Nodup) (hij : i ≠ j) (ha : PA X [a, b] (tA (gx X ct) E fa))
    (hi : X.N[i]? = some x := by rfl) (hj : X.N[j]? = some y := by rfl) (hx : X.env.scope.names.lookup x = some .local := by rfl) (hy : X.env.scope.names.lookup y = some .local := by rfl)
    (hw : swappedStores [.Tuple [.Name x px, .Name y py] kt pt] (.Tuple [a, b] k2 pt2) X.env = pure (some [x, y]) := by rfl)
    (hs : swapsWithSole [.Tuple [.Name x px, .Name y py] kt pt] (.Tuple [a, b] k2 pt2) pos.line X.env = pure false := by rfl) :
    PS X (.Assign [.Tuple [.Name x px, .Name y py] kt pt] (.Tuple [a, b] k2 pt2) pos) (tS (gx X ct) E (fPar i j fa)) := PSw (ps_par hc hN hi hj hij hx hy ha hw hs) fun D σ H ⟨η, ρ, S, rp, er, h⟩ =>
  ⟨η, ρ, S, rp, er, FinR.mono (FinS.bind er h) fun vs H1 ⟨η1, ws, S1, f1, rp1, r1, h1⟩ => by
    split at h1
    · rename_i u v
      obtain ⟨v1, v2, rfl, r2, r3⟩ := repWs2 r1
      exact ⟨v1, v2, rfl, h1 η1 H1 _ (Fu.refl _ _) rp1 (((er.fu f1).set r2).set r3)⟩
    · exact h1.elim⟩
end VI
set_option Elab.async false
set_option linter.all false
set_option maxRecDepth 100000
namespace VI
open PySem PySem.Spec PyProof.Rows L2

/-! constants of the module -/
def KCon (K : PySem.W.Frag) (mg : Str → Option Value) (x : Str) (d : PyData) : Prop := ∃ (v : V) (u : Value), mg x = some u ∧ RelV v u ∧ ∀ η H, RepD K η H d v
theorem kCon {X : Cx} {ct : Nat → Option Addr} {E : EX} {x : Str} {d : PyData} {pos : Pos} (C : KCon X.K X.mg x d) (hg : Gl X x := by rfl) (hd : (x == ("__debug__" : Str)) = false := by decide) : PE X (.Name x pos) (tF (gx X ct) E (fC d)) := by
  obtain ⟨v, u, m, r, rd⟩ := C
  exact ig hg m r rd hd
def kRow (k : List Str) (d : PyData) : List Str × PyData := (k, d)
/-- a written dict whose keys are tuples of texts -/
def KDic (P : Program) (w : World) (K : PySem.W.Frag) (mg : Str → Option Value) (x : Str) (tab : List (List Str × PyData)) : Prop :=
  ∃ (d : Addr) (xs : List (List Key × Addr × Value)), mg x = some (.ref d) ∧ (∀ h : Heap, K.In h → h.DictOfH (tupleKind (mixKind P w)) d xs) ∧
    ∀ ks pd, tab.lookup ks = some pd → ∃ p, atKey xs (ks.map Sum.inr) = some p ∧ ∃ v, RelV v p.2 ∧ ∀ η H, RepD K η H pd v
def strsD : List PyData → Option (List Str)
  | [] => some []
  | .str x :: r => (strsD r).map (x :: ·)
  | _ :: _ => none
theorem strsD_ok {K : PySem.W.Frag} {η : List Addr} {H : Hp} : ∀ {ds : List PyData} {vs : List V} {ks : List Str}, strsD ds = some ks → RepDs K η H ds vs → vs = (ks.map (Sum.inr (α := Int))).map kV
  | [], _, _, e, r => by cases e; cases r; rfl
  | .str x :: ds, _, ks, e, r => by
    cases r with
    | cons r1 r2 =>
      cases r1
      cases q : strsD ds with
      | none => rw [strsD, q] at e; cases e
      | some ks' =>
        rw [strsD, q] at e
        cases e
        rw [strsD_ok q r2]
        rfl
  | .none :: _, _, _, e, _ => by cases e
  | .bool _ :: _, _, _, e, _ => by cases e
  | .int _ :: _, _, _, e, _ => by cases e
  | .list _ :: _, _, _, e, _ => by cases e
  | .tuple _ :: _, _, _, e, _ => by cases e
  | .dict _ :: _, _, _, e, _ => by cases e
def gKD (tab : List (List Str × PyData)) (w : W) (S : Store) : O := match w with
  | .d (.tuple ds) => match strsD ds with
    | some ks => (tab.lookup ks).map fun pd => (.d pd, S)
    | none => none
  | _ => none
theorem kDic {X : Cx} {ct : Nat → Option Addr} {E : EX} {k : Nat} {x : Str} {tab : List (List Str × PyData)} {i : Expr} {p pos : Pos} {f : FE} (C : KDic X.prog X.w X.K X.mg x tab) (hr : Room k X.A) (hi : PE X i (tF (gx X ct) E f)) (hg : Gl X x := by rfl) (hs : NoSl i := by intro _ _; rfl)
    (hd : (x == ("__debug__" : Str)) = false := by decide) : PE X (.Subscript (.Name x p) i pos) (tF (gx X ct) E (f1 (gKD tab) f)) := by
  obtain ⟨d, xs, m, hD, hT⟩ := C
  have hu : X.A.units + 1 < cLine := by have := hr.un; omega
  have ho : PE X (.Name x p) (tC (.ref d)) := pe_glob hg m rfl hd
  refine ⟨fun pins s σ H Q I h => ?_⟩
  refine subD_of PySem.F.slot_dict_getitem.lookup hs (thn (ho.run pins s σ H (fun y H1 => y = .ref d ∧ H1 = H) I ⟨rfl, rfl⟩) fun u s1 ⟨y, H1, I1, ry, ey, eH⟩ => ?_)
  subst ey
  subst eH
  obtain rfl : u = Value.ref d := ry
  refine thn (hi.run pins s1 σ H1 _ I1 (get1 (r := fun y H2 Q => ∃ b ks pd, y = .ref b ∧ SqT X.K H2 b ((ks.map (Sum.inr (α := Int))).map kV) ∧ tab.lookup ks = some pd ∧ ∀ v, (∀ η H, RepD X.K η H pd v) → Q v H2) (fun y H2 Q ⟨η, S, w, rp, r, h⟩ => ?_) σ H1 Q h)) fun iv s2 ⟨y, H2, I2, ry2, b, ks, pd, ey, hb, hl, q⟩ => ?_
  · clear h
    subst ey
    obtain rfl : iv = Value.ref b := ry2
    obtain ⟨pr, ep, v, rv, rd⟩ := hT ks pd hl
    have dd := hD s2.heap I2.kIn
    obtain ⟨its, rr, it, _⟩ := I2.tuple hb
    obtain ⟨o, g1, g2, n, g3⟩ := it
    have key : (tupleKind (mixKind X.prog X.w)).is s2.heap (ks.map Sum.inr) b := ⟨o, its.toArray, n, g1, g2, g3, by simpa using items_are rr⟩
    refine ⟨dd.typeIs, wpAny_getItem_heap (tupleKind_room_in1 hu) key dd ep ⟨v, H2, I2.tok _, rv, q v rd⟩⟩
  · unfold gKD at h
    split at h
    · rename_i ds
      split at h
      · rename_i ks ek
        cases r with
        | d r =>
          cases r with
          | tuple h1 h2 =>
            rw [strsD_ok ek h2] at h1
            cases el : tab.lookup ks with
            | none => rw [el] at h; exact h.elim
            | some pd =>
              rw [el] at h
              exact ⟨_, ks, pd, rfl, h1, el, fun v rv => same_val rp (.d (rv _ _)) h⟩
      · exact h.elim
    · exact h.elim
end VI
set_option Elab.async false
set_option linter.all false
set_option maxRecDepth 100000
namespace VI
open PySem PySem.Spec PyProof.Rows L2

/-! sorted, of texts -/
/-- x not above y -/
def leS (x y : Str) : Bool := !ltCps y.cps.toList x.cps.toList
theorem leS_iff {x y : Str} : leS x y = true ↔ x.cps.toList ≤ y.cps.toList := by
  unfold leS
  rw [ltCps_eq, Bool.not_eq_true', decide_eq_false_iff_not]
  exact List.not_lt
theorem leS_trans {x y z : Str} (h1 : leS x y = true) (h2 : leS y z = true) : leS x z = true := leS_iff.mpr (List.le_trans (leS_iff.mp h1) (leS_iff.mp h2))
theorem leS_total (x y : Str) : leS x y = true ∨ leS y x = true := by
  rcases List.le_total x.cps.toList y.cps.toList with h | h
  · exact .inl (leS_iff.mpr h)
  · exact .inr (leS_iff.mpr h)
theorem leS_anti {x y : Str} (h1 : leS x y = true) (h2 : leS y x = true) : x = y := by
  have e := List.le_antisymm (leS_iff.mp h1) (leS_iff.mp h2)
  cases x with
  | mk a =>
    cases y with
    | mk b =>
      have e' : a.toList = b.toList := e
      rw [Array.toList_inj.mp e']
theorem rising_pair : ∀ (r : List Str) (p : Str), risingS p r = true → (p :: r).Pairwise fun a b => leS a b = true
  | [], p, _ => List.pairwise_singleton _ _
  | x :: r, p, h => by
    rw [risingS, Bool.and_eq_true] at h
    have t := rising_pair r x h.2
    refine List.pairwise_cons.mpr ⟨fun z hz => ?_, t⟩
    rcases List.mem_cons.mp hz with e | hz
    · rw [e]; exact h.1
    · exact leS_trans h.1 ((List.pairwise_cons.mp t).1 z hz)
theorem sorted_pair : ∀ ys : List Str, sortedS ys = true → ys.Pairwise fun a b => leS a b = true
  | [], _ => List.Pairwise.nil
  | x :: r, h => rising_pair r x h
def srtS (zs : List Str) : List Str := zs.mergeSort leS
theorem srtS_eq {ys zs : List Str} (hp : ys.Perm zs) (hs : sortedS ys = true) : ys = srtS zs :=
  List.Perm.eq_of_pairwise (fun a b _ _ h1 h2 => leS_anti h1 h2) (sorted_pair ys hs) (List.pairwise_mergeSort (le := leS) (fun a b c => leS_trans) (fun a b => (Bool.or_eq_true _ _).mpr (leS_total a b)) zs) (hp.trans (List.mergeSort_perm zs leS).symm)
def gSorted (ws : List W) (S : Store) : O := match ws with
  | [u] => match asLW u S with
    | some us => match datas us with
      | some ds => match strsD ds with
        | some ks => if ks.length < 64 then some (.d (.list ((srtS ks).map .str)), S) else none
        | none => none
      | none => none
    | none => none
  | _ => none
theorem strs_rep {K : PySem.W.Frag} {η : List Addr} {H : Hp} : ∀ ks : List Str, RepDs K η H (ks.map PyData.str) (ks.map V.str)
  | [] => .nil
  | k :: ks => .cons (.str k) (strs_rep ks)
theorem strsD_vals {K : PySem.W.Frag} {η : List Addr} {H : Hp} {ds : List PyData} {vs : List V} {ks : List Str} (e : strsD ds = some ks) (r : RepDs K η H ds vs) : vs = ks.map V.str := by
  rw [strsD_ok e r, List.map_map]
  rfl
theorem c_sorted {X : Cx} {ct : Nat → Option Addr} : CallR X (.builtin "sorted") (SimL X ct gSorted) := CallR.fit cr_sortedS fun xs H Q ⟨η, S, ws, rp, rr, q⟩ => by
  unfold gSorted at q
  split at q
  · rename_i u
    obtain ⟨v, rfl, r⟩ := repWs1 rr
    split at q
    · rename_i us e1
      obtain ⟨a, vs, rfl, h1, h2⟩ := asLW_ok e1 rp r
      split at q
      · rename_i ds e2
        have h3 := datas_ok e2 h2
        split at q
        · rename_i ks e3
          split at q
          · rename_i hl
            rw [strsD_vals e3 h3] at h1
            refine ⟨a, ks, rfl, h1, hl, fun ys p hp hs np => ?_⟩
            rw [srtS_eq hp hs]
            exact new_list rp (strs_rep _) q p np
          · exact q.elim
        · exact q.elim
      · exact q.elim
    · exact q.elim
  · exact q.elim
end VI
set_option Elab.async false
set_option linter.all false
set_option maxRecDepth 100000
namespace VI
open PySem PySem.Spec PyProof.Rows L2

/-! a module's defs, all of them -/
def DefAt (K : PySem.W.Frag) (mg : Str → Option Value) (x : Str) (st : Stmt) : Prop := ∃ (f : Addr) (fd : FuncData), FunD K x x (defArgs st) (defBody st) (defScope st) [] [] f fd ∧ mg x = some (.ref f)
section
variable {P : Program} {w : World} {K : PySem.W.Frag} {mg : Str → Option Value} {base : Heap} {ct : Nat → Option Addr} {n : Nat} {x : Str} {st : Stmt} {N ps : List Str} {g : List W → Store → R W} {b : FS}
/-- how its arguments bind -/
def Bnd (x : Str) (st : Stmt) (ps : List Str) : Prop := ∀ (kV doc pm : Value) (an : Option Addr) (cdv cv : Value) (us : List Value), us.length = ps.length → bindArgs (PySem.W.fnOf x x (defArgs st) (defBody st) (defScope st) .none kV doc pm an cdv cv) ⟨us, []⟩ = pure (ps.zip us)
theorem callee_zero (D : DefAt K mg x st) (hB : Bnd x st ps) (h : ∀ ws S, g ws S = .bad) : Callee P w K mg base ct n x ps g := by
  obtain ⟨f, fd, F, m⟩ := D
  exact ⟨f, fd, fnG_zero h, m, F.kp, F.bindsN hB⟩
theorem callee_succ (D : DefAt K mg x st) (hB : Bnd x st ps) (hS : FnScope N ps (defScope st)) (e : ∀ ws S, g ws S = runB N.length b ws S)
    (h : ∀ (f : Addr) (cdv : Value) (A : Around) (outer : List Env) (s : Shared) (H : Hp) (E : XK), Room n (A.deeper (envOfC x (defScope st) s.heap.objs.size f cdv)) → A.guards = some [] → PSs (bodyX P w K mg base N x (defScope st) f cdv A outer s H E) (defBody st) (tS ⟨K, ct⟩ NX b)) :
    Callee P w K mg base ct (n + 1) x ps g := by
  obtain ⟨f, fd, F, m⟩ := D
  exact ⟨f, fd, FunD.okG F hS fun cdv A outer s H E r gd => ⟨b, fun ws S _ => e ws S, h f cdv A outer s H E r gd⟩, m, F.kp, F.bindsN hB⟩
end
end VI
set_option Elab.async false
set_option linter.all false
set_option maxRecDepth 100000
namespace VI
open PySem PySem.Spec PyProof.Rows L2

/-! isinstance, of built-in types -/
def isT (t T : String) : Bool := t == T || (t == "bool" && T == "int")
theorem kit_all (K : PySem.W.Frag) : (tys.all fun t => tys.all fun T => decide (PySem.W.kitOne K (.type t) (.type T) = some (isT t T))) = true := by kernel_rfl
theorem kit_ty {K : PySem.W.Frag} {t T : String} (h1 : t ∈ tys) (h2 : T ∈ tys) : PySem.W.kitOne K (.type t) (.type T) = some (isT t T) :=
  of_decide_eq_true (List.all_eq_true.mp (List.all_eq_true.mp (kit_all K) t h1) T h2)
def tyW (w : W) (S : Store) : Option String := match w with
  | .d .none => some "NoneType"
  | .d (.bool _) => some "bool"
  | .d (.int _) => some "int"
  | .d (.str _) => some "str"
  | .d (.list _) => some "list"
  | .d (.tuple _) => some "tuple"
  | .d (.dict _) => none
  | .loc l => match S[l]? with
    | some (.lst _) => some "list"
    | _ => none
  | .tp _ => some "tuple"
  | .fro _ => some "list"
theorem tup_ty {K : PySem.W.Frag} {H : Hp} {a : Addr} {vs : List V} (h : SqT K H a vs) : TyX K H (.ref a) (.type "tuple") := by
  rcases h with (h | ⟨o, h⟩) | ⟨o, its, n, e, c, _⟩
  · exact .base (.tup h)
  · exact .fTuple h
  · exact .kTuple e c
theorem tyW_ok {K : PySem.W.Frag} {η : List Addr} {H : Hp} {S : Store} {w : W} {v : V} {t : String} (e : tyW w S = some t) (rp : Rp K η H S) (r : RepW K η H w v) : TyX K H v (.type t) ∧ t ∈ tys := by
  cases w with
  | d x =>
    cases r with
    | d r =>
      cases r with
      | none => cases e; exact ⟨.base .non, by decide⟩
      | bool b => cases e; exact ⟨.base (.bl b), by decide⟩
      | int i => cases e; exact ⟨.base (.int i), by decide⟩
      | str x => cases e; exact ⟨.base (.str x), by decide⟩
      | list h1 h2 h3 => cases e; exact ⟨.base (.lst h1), by decide⟩
      | tuple h1 h2 => cases e; exact ⟨tup_ty h1, by decide⟩
      | dct _ _ => cases e
      | own _ _ _ => cases e
      | dctE _ _ _ _ => cases e
      | ownE _ _ _ _ _ _ => cases e
  | loc l =>
    unfold tyW at e
    cases q : S[l]? with
    | none => simp only [q] at e; cases e
    | some o =>
      cases o with
      | lst xs =>
        simp only [q] at e
        cases e
        obtain ⟨a, vs, rfl, _, h1, _⟩ := live_at q rp r
        exact ⟨.base (.lst h1), by decide⟩
      | dK _ => simp only [q] at e; cases e
      | dT _ => simp only [q] at e; cases e
      | ob _ _ => simp only [q] at e; cases e
  | tp ws =>
    cases e
    cases r with
    | tp h1 h2 => exact ⟨tup_ty h1, by decide⟩
  | fro ws =>
    cases e
    cases r with
    | fro h1 h2 =>
      rcases h1 with ⟨o, h⟩ | ⟨o, its, n, hk, hc, _⟩
      · exact ⟨.base (.frz h), by decide⟩
      · exact ⟨.kList hk hc, by decide⟩
def gIsi (T : String) (w : W) (S : Store) : O := (tyW w S).map fun t => (.d (.bool (isT t T)), S)
section
variable {X : Cx} {ct : Nat → Option Addr} {E : EX}
theorem i_isi (T : String) {x : Str} {e : Expr} {p p2 pos : Pos} {f : FE} (hT : T ∈ tys) (hg : Gl X "isinstance") (hm : X.mg "isinstance" = none) (hx : Gl X x) (hmx : X.mg x = none) (hv : bootBuiltins x = some (.type T)) (he : PE X e (tF (gx X ct) E f)) (hn : x ≠ "__name__" := by decide)
    (hd : (x == ("__debug__" : Str)) = false := by decide) (hs : starEach [e, .Name x p2] X.env = (false, eval e X.env) :: starEach [.Name x p2] X.env := by rfl) (hs2 : starEach [.Name x p2] X.env = (false, eval (.Name x p2) X.env) :: starEach [] X.env := by rfl) (hpl : (backTo pos (starEach [.Name x p2] X.env)).any (·.1) = false := by rfl)
    (hb : bootBuiltins "isinstance" = some (.builtin "isinstance") := by decide +kernel) : PE X (.Call (.Name "isinstance" p) [e, .Name x p2] [] pos) (tF (gx X ct) E (f1 (gIsi T) f)) :=
  PEw (pe_callB call_isi hg hm hb (pa_cons he (pa_cons (pe_bltn (v := .ty T) hx hmx hv rfl hn hd) pa_nil hs2) hs) (by decide) (by decide) hs hpl) fun σ H Q ⟨η, ρ, S, rp, er, h⟩ =>
    ⟨η, ρ, S, rp, er, FinR.mono (FinR.bind (rel := relW (gx X ct)) h) fun v H1 ⟨η1, w, S1, f1, rp1, r1, h1⟩ => by
      cases q : tyW w S1 with
      | none =>
        have h2 : FinP (gx X ct) (E σ) η1 H1 (lift (gIsi T w S1)) Q := h1
        unfold gIsi at h2
        rw [q] at h2
        exact h2.elim
      | some t =>
        have h2 : FinP (gx X ct) (E σ) η1 H1 (lift (gIsi T w S1)) Q := h1
        unfold gIsi at h2
        rw [q] at h2
        obtain ⟨ty, ht⟩ := tyW_ok q rp1 r1
        exact ⟨v, .ty T, .type t, .type T, isT t T, rfl, .ty T, ty, kit_ty ht hT, h2 η1 H1 _ (Fu.refl _ _) rp1 (.d (.bool _))⟩⟩
end
end VI
set_option Elab.async false
set_option linter.all false
set_option maxRecDepth 100000
namespace VI
open PySem PySem.Spec PyProof.Rows L2

/-! texts -/
section
variable {X : Cx} {ct : Nat → Option Addr} {E : EX}
/-- cut, of any of the three -/
def gSlA (a : W) (lo hi : Option Int) (S : Store) : O := match a with
  | .d (.str z) => if z.length ≤ lim then some (.d (.str (cutS z lo hi)), S) else none
  | a => gSl a lo hi S
theorem sl_all : SlR X (SimS X ct gSlA) := by
  intro pins s σ H x v vl vu lo hi sl Q I rx hs pl pu ⟨η, S, w, rp, r, h⟩
  unfold gSlA at h
  split at h
  · rename_i z
    split at h
    · rename_i hz
      cases r with
      | d r =>
        cases r
        exact sl_str pins s σ H _ v vl vu lo hi sl Q I rx hs pl pu ⟨z, rfl, lim_ok hz, same_val rp (.d (.str _)) h⟩
    · exact h.elim
  · exact sl_any pins s σ H x v vl vu lo hi sl Q I rx hs pl pu ⟨η, S, w, rp, r, h⟩
theorem i_slA {e : Expr} {lo hi : Option Expr} {fe : FE} {fl fh : FO} {pos p2 : Pos} (he : PE X e (tF (gx X ct) E fe)) (hl : PO X lo (tO (gx X ct) E fl)) (hu : PO X hi (tO (gx X ct) E fh)) : PE X (.Subscript e (.Slice lo hi none p2) pos) (tF (gx X ct) E (fSl gSlA fe fl fh)) :=
  PEw (pe_slice sl_all he hl hu) fun σ H Q ⟨η, ρ, S, rp, er, h⟩ =>
    ⟨η, ρ, S, rp, er, FinR.mono (FinR.bind h) fun v H1 ⟨η1, w, S1, f, rp1, r1, h1⟩ =>
      ⟨η1, ρ, S1, rp1, er.fu f, FinR.mono (FinR.bind h1) fun v2 H2 ⟨η2, l, S2, f2, rp2, r2, h2⟩ =>
        ⟨η2, ρ, S2, rp2, (er.fu f).fu f2, FinR.mono (FinR.bind h2) fun v3 H3 ⟨η3, u, S3, f3, rp3, r3, h3⟩ => by
          obtain rfl : v2 = l := r2
          obtain rfl : v3 = u := r3
          exact ⟨η3, S3, w, rp3, RepW.fu f3 _ _ (RepW.fu f2 _ _ r1), lift_ok h3⟩⟩⟩⟩
/-- in: a text within a text, a flat value in a sequence -/
def gInS (a b : W) (S : Store) : O := match a, b with
  | .d (.str i), .d (.str j) => some (.d (.bool (!(Builtin.Str.occurrences j i 0 j.length 1).isEmpty)), S)
  | _, _ => none
def gInA (a b : W) (S : Store) : O := match gInS a b S with
  | some o => some o
  | none => gIn false a b S
theorem sim_inS : OpR X (compareOp .In) (Sim2 X ct gInS) := OpR.fit op_in_str fun x y H Q ⟨η, S, wx, wy, rp, rx, ry, h⟩ => by
  unfold gInS at h
  split at h
  · cases rx with
    | d rx =>
      cases ry with
      | d ry =>
        cases rx
        cases ry
        exact ⟨_, _, rfl, rfl, same_val rp (.d (.bool _)) h⟩
  · exact h.elim
theorem sim_inA : OpR X (compareOp .In) (Sim2 X ct gInA) := OpR.orElse sim_inS sim_in
/-! methods of texts -/
def mSplit : GM := fun o ws S => match o, ws with
  | .d (.str a), [.d (.str b)] => if b.length ≠ 0 ∧ a.length + 2 ≤ lim then some (.d (.list ((Txt.split a b).map PyData.str)), S) else none
  | _, _ => none
theorem m_split : MtR X "str.split" (SimM X ct mSplit) := MtR.fit mt_split fun x xs H Q ⟨η, S, wx, ws, rp, rx, rr, h⟩ => by
  unfold mSplit at h
  split at h
  · rename_i a b
    obtain ⟨v, rfl, r⟩ := repWs1 rr
    cases rx with
    | d rx =>
      cases r with
      | d r =>
        cases rx
        cases r
        split at h
        · rename_i hz
          exact ⟨a, b, rfl, rfl, by simpa using hz.1, lim_ok hz.2, new_list rp (strs_rep _) h⟩
        · exact h.elim
  · exact h.elim
def fMethS (g : GM) (o : FE) (a : FA) : FE := fun ρ S => (o ρ S).bind fun ov S1 => match ov with
  | .d (.str z) => (a ρ S1).bind fun ws S2 => lift (g (.d (.str z)) ws S2)
  | _ => .bad
theorem i_methS {o e : Expr} {es : List Expr} {name : Str} {apos cpos : Pos} {id : String} {g : GM} {fo : FE} {fa : FA} (slot : Slot "str" name id) (hty : typeOf (.builtin id) = pure (.type "method_descriptor")) (hm : MtR X id (SimM X ct g)) (ho : PE X o (tF (gx X ct) E fo)) (ha : PA X (e :: es) (tA (gx X ct) E fa))
    (hbase : attributeBase o name X.env (eval o X.env) = eval o X.env := by rfl)
    (hfew : ((backTo cpos (starEach (e :: es) X.env)).all (fun x => !x.1) && (backToKw cpos (keywordEach [] X.env)).all (fun x => x.1.isSome)
      && decide ((e :: es).length + ([] : List Keyword).length + (if ([] : List Keyword).isEmpty then 0 else 1) < 30)) = true := by rfl)
    (hline : (apos.endLine == cpos.line) = true := by rfl) (hs : starEach (e :: es) X.env = (false, eval e X.env) :: starEach es X.env := by rfl) (hplain : (backTo cpos (starEach es X.env)).any (·.1) = false := by rfl) :
    PE X (.Call (.Attribute o name apos) (e :: es) [] cpos) (tF (gx X ct) E (fMethS g fo fa)) := PEw (pe_bm PySem.F.plainAttrs_str slot hty hm ho ha hbase hfew hline hs hplain) fun σ H Q ⟨η, ρ, S, rp, er, h⟩ =>
  ⟨η, ρ, S, rp, er, FinR.mono (FinR.bind (rel := relW (gx X ct)) h) fun v H1 ⟨η1, w, S1, f1, rp1, r1, h1⟩ => by
    split at h1
    · rename_i z
      have r0 := r1
      cases r1 with
      | d r1 =>
        cases r1
        exact ⟨rfl, η1, ρ, S1, rp1, er.fu f1, FinR.mono (FinR.bind (rel := relL (gx X ct)) h1) fun vs H2 ⟨η2, ws, S2, f2, rp2, r2, h2⟩ => ⟨η2, S2, _, ws, rp2, RepW.fu f2 _ _ r0, r2, lift_ok h2⟩⟩
    · exact h1.elim⟩
/-! a text walked -/
def sigW (z : Str) : List W := z.cps.toList.map fun c => W.d (.str ⟨#[c]⟩)
def wkStr (w : W) : Option Wk := match w with
  | .d (.str z) => some ⟨sigW z, fun _ => True⟩
  | _ => none
def fItStr (a : FE) : FK := fun ρ S => (a ρ S).bind fun w S1 => seqR (wkStr w) S1
theorem walk_str {K : PySem.W.Frag} {η : List Addr} {H : Hp} {z : Str} : WalkOk K ⟨sigW z, fun _ => True⟩ η H (Its z) where
  stop := fun η' H' S' f rp ok => by
    show z.cps.size ≤ (sigW z).length
    unfold sigW
    rw [List.length_map, Array.length_toList]
    exact Nat.le_refl _
  go := fun η' H' S' i w f rp ok e => by
    have e' : (sigW z)[i]? = some w := e
    unfold sigW at e'
    rw [List.getElem?_map, Array.getElem?_toList] at e'
    cases q : z.cps[i]? with
    | none => rw [q] at e'; cases e'
    | some c =>
      rw [q] at e'
      have ew : W.d (.str ⟨#[c]⟩) = w := Option.some.inj e'
      subst ew
      refine ⟨(Array.getElem?_eq_some_iff.mp q).1, fun y H'' yl => ?_⟩
      obtain ⟨rfl, c', q', rfl⟩ := yl
      rw [q] at q'
      cases q'
      exact ⟨Fu.refl _ _, rp, .d (.str _)⟩
theorem w_str {tg e : Expr} {f : FE} (he : PE X e (tF (gx X ct) E f)) : PI X tg e (tI (gx X ct) E (fItStr f)) := PIw (pi_str he) fun σ H R ⟨η, ρ, S, rp, er, h⟩ =>
  ⟨η, ρ, S, rp, er, FinR.mono (FinR.bind (rel := relW (gx X ct)) h) fun v H1 ⟨η1, w, S1, f1, rp1, r1, h1⟩ => by
    obtain ⟨x, e1, h2⟩ := seqR_fin h1
    unfold wkStr at e1
    split at e1
    · cases e1
      cases r1 with
      | d r1 => cases r1; exact ⟨_, rfl, h2 η1 H1 _ (Fu.refl _ _) rp1 walk_str⟩
    · cases e1⟩
end
end VI
namespace VI
open PySem PySem.Spec PyProof.Rows L2
section
variable {X : Cx} {ct : Nat → Option Addr}
/-- f() -/
theorem cCall0 {k n : Nat} {x : Str} {ps : List Str} {g : List W → Store → R W} {p pos : Pos} (C : Callee X.prog X.w X.K X.mg X.base ct k x ps g) (hr : Room k X.A) (hgd : X.A.guards = some []) (hn : ps.length = n := by rfl) (hn0 : n = 0 := by rfl) (hg : Gl X x := by rfl) (hdb : (x == ("__debug__" : Str)) = false := by decide) :
    PE X (.Call (.Name x p) [] [] pos) (tF (gx X ct) NX (fCall n g fA0)) := by
  obtain ⟨f, fd, F, m, kp, b⟩ := C
  subst hn
  refine PEw (pe_callG0 F hr hgd hg m kp b pass0 hdb) fun σ H Q ⟨η, ρ, S, rp, er, h⟩ => ?_
  have h1 : FinP (gx X ct) E0 η H (if ([] : List W).length = ps.length then frz S.length (g [] S) else .bad) Q := h
  rw [if_pos (by rw [hn0]; rfl)] at h1
  exact ⟨by rw [hn0]; rfl, η, S, [], rp, .nil, FinR.frz rp h1⟩
theorem cCall0L {k n : Nat} {x : Str} {ps : List Str} {g : List W → Store → R W} {p pos : Pos} (C : Callee X.prog X.w X.K X.mg X.base ct k x ps g) (hr : Room k X.A) (hgd : X.A.guards = some []) (hn : ps.length = n := by rfl) (hn0 : n = 0 := by rfl) (hg : Gl X x := by rfl) (hdb : (x == ("__debug__" : Str)) = false := by decide) :
    PE X (.Call (.Name x p) [] [] pos) (tF (gx X ct) NX (fCallL n g fA0)) := by
  obtain ⟨f, fd, F, m, kp, b⟩ := C
  subst hn
  refine PEw (pe_callG0 F hr hgd hg m kp b pass0 hdb) fun σ H Q ⟨η, ρ, S, rp, er, h⟩ => ?_
  have h1 : FinP (gx X ct) E0 η H (if ([] : List W).length = ps.length then g [] S else .bad) Q := h
  rw [if_pos (by rw [hn0]; rfl)] at h1
  exact ⟨by rw [hn0]; rfl, η, S, [], rp, .nil, h1⟩
end
end VI
namespace VI
open PySem PySem.Spec PyProof.Rows L2
/-- a, b, c = e1, e2, e3 -/
def fPar3 (i j k : Nat) (a : FA) : FS := fun ρ S => toS ρ (a ρ S) fun ws S1 => match ws with
  | [u, v, w] => .next (((ρ.set i (some u)).set j (some v)).set k (some w)) S1
  | _ => .bad
theorem s_par3 {X : Cx} {ct : Nat → Option Addr} {E : EX} (i j l : Nat) {x y z : Str} {a b c : Expr} {fa : FA} {px py pz pt pos : Pos} {kt k2 : Nat} {pt2 : Pos} (hc : X.calm = true) (hN : X.N.Nodup) (hij : i ≠ j) (hil : i ≠ l) (hjl : j ≠ l) (ha : PA X [a, b, c] (tA (gx X ct) E fa))
    (hi : X.N[i]? = some x := by rfl) (hj : X.N[j]? = some y := by rfl) (hl : X.N[l]? = some z := by rfl) (hx : X.env.scope.names.lookup x = some .local := by rfl) (hy : X.env.scope.names.lookup y = some .local := by rfl) (hz : X.env.scope.names.lookup z = some .local := by rfl)
    (hw : swappedStores [.Tuple [.Name x px, .Name y py, .Name z pz] kt pt] (.Tuple [a, b, c] k2 pt2) X.env = pure (some [x, y, z]) := by rfl)
    (hs : swapsWithSole [.Tuple [.Name x px, .Name y py, .Name z pz] kt pt] (.Tuple [a, b, c] k2 pt2) pos.line X.env = pure false := by rfl) :
    PS X (.Assign [.Tuple [.Name x px, .Name y py, .Name z pz] kt pt] (.Tuple [a, b, c] k2 pt2) pos) (tS (gx X ct) E (fPar3 i j l fa)) := PSw (ps_par3 hc hN hi hj hl hij hil hjl hx hy hz ha hw hs) fun D σ H ⟨η, ρ, S, rp, er, h⟩ =>
  ⟨η, ρ, S, rp, er, FinR.mono (FinS.bind er h) fun vs H1 ⟨η1, ws, S1, f1, rp1, r1, h1⟩ => by
    split at h1
    · rename_i u v w
      obtain ⟨v1, v2, v3, rfl, r2, r3, r4⟩ := repWs3 r1
      exact ⟨v1, v2, v3, rfl, h1 η1 H1 _ (Fu.refl _ _) rp1 ((((er.fu f1).set r2).set r3).set r4)⟩
    · exact h1.elim⟩
end VI
set_option Elab.async false
set_option linter.all false
set_option maxRecDepth 100000
namespace VI
open PySem PySem.Spec PyProof.Rows L2

/-! calls where something may be raised -/
section
variable {X : Cx} {ct : Nat → Option Addr} {CX : CXT} {k : Nat} {E : EX}
theorem run_E {f : Addr} {fd : FuncData} {ps : List Str} {sp : Sp} {pins : List (Addr × Obj)} {σ : L2.St} {H : Hp} {s : Shared} {Q : VK} {us : List Value} {vs : List V} {Z : XK} (F : FnG X.prog X.w X.K X.mg X.base CX k f fd ps sp) (room : Room k X.A) (gd : X.A.guards = some []) (bn : Binds X.K fd ps []) (px : PassesAt CX X σ Z)
    (inv : Inv X pins σ H s) (rel : Vals vs us) (pre : sp vs H Q Z) : wpAny (model X.prog X.w) X.A (call (.ref f) us) (EP X pins σ Q) X.xe s := by
  have ln : us.length = ps.length := rel.length.symm.trans (F.len _ _ _ _ pre)
  have bs := bn s us inv.kIn (by rw [List.append_nil]; exact ln)
  rw [List.append_nil] at bs
  refine wpAny_call (codeAny_mono (F.run X.A X.stack s H ⟨us, []⟩ us vs Q Z room gd inv.env0 bs rel pre) fun res t hres => ?_)
  cases res with
  | error er => exact px pins H s er t inv hres
  | ok fl =>
    cases fl with
    | ret u => exact inv.after hres
    | next => exact hres.elim
    | brk => exact hres.elim
    | cont => exact hres.elim
/-- a def of the module that may raise as CX says -/
def CalleeC (CX : CXT) (P : Program) (w : World) (K : PySem.W.Frag) (mg : Str → Option Value) (base : Heap) (ct : Nat → Option Addr) (k : Nat) (x : Str) (ps : List Str) (g : List W → Store → R W) : Prop :=
  ∃ (f : Addr) (fd : FuncData), FnG P w K mg base CX k f fd ps (spG ⟨K, ct⟩ ps.length g) ∧ mg x = some (.ref f) ∧ PySem.W.keepIn K (.ref f) = true ∧ Binds K fd ps []
theorem pass0E {σ : L2.St} {Z : XK} : PassesAt CX0 X σ Z := fun _ _ _ _ _ _ h => h.elim
variable {n : Nat} {x : Str} {ps : List Str} {g : List W → Store → R W} {p pos : Pos} {e : Expr} {es : List Expr} {fa : FA}
theorem cCallE (C : CalleeC CX X.prog X.w X.K X.mg X.base ct k x ps g) (px : ∀ σ, PassesAt CX X σ (E σ)) (room : Room k X.A) (gd : X.A.guards = some []) (ha : PA X (e :: es) (tA (gx X ct) E fa)) (hn : ps.length = n := by rfl) (hg : Gl X x := by rfl) (hdb : (x == ("__debug__" : Str)) = false := by decide)
    (he : starEach (e :: es) X.env = (false, eval e X.env) :: starEach es X.env := by rfl) (hpl : (backTo pos (starEach es X.env)).any (·.1) = false := by rfl) : PE X (.Call (.Name x p) (e :: es) [] pos) (tF (gx X ct) E (fCall n g fa)) := by
  obtain ⟨f, fd, F, m, kp, bn⟩ := C
  subst hn
  refine ⟨fun pins s σ H Q inv ⟨η, ρ, S, rp, er, h⟩ => ?_⟩
  refine wpAny_Call_Name_kw (ld_glob inv hg m ?_ hdb)
  refine PySem.W.callWith_K (h₀ := X.base) inv.ok.mod.kin kp (thn (ha.run pos pins s σ H _ inv ⟨η, ρ, S, rp, er, FinR.bind (rel := relL (gx X ct)) h⟩) fun us s1 ⟨vs, H1, inv1, rel, η1, ws, S1, f1, rp1, r1, h1⟩ => ⟨inv1.kIn, ?_⟩) he hpl
  have h2 : FinP (gx X ct) (E σ) η1 H1 (if ws.length = ps.length then frz S1.length (g ws S1) else .bad) Q := h1
  by_cases hw : ws.length = ps.length
  · rw [if_pos hw] at h2
    exact run_E F room gd bn (px σ) inv1 rel ⟨by rw [← r1.length]; exact hw, η1, S1, ws, rp1, r1, FinR.frz rp1 h2⟩
  · rw [if_neg hw] at h2
    exact h2.elim
end

/-! a def that may raise -/
def toRX : RF → R W
  | .next _ S => .ok (.d .none) S
  | .ret w S => .ok w S
  | .exc c fs _ S => .exc c fs S
  | _ => .bad
def runX (n : Nat) (b : FS) (ws : List W) (S : Store) : R W := toRX (b (startR n ws) S)
section
variable {P : Program} {w : World} {K : PySem.W.Frag} {mg : Str → Option Value} {base : Heap} {ct : Nat → Option Addr}
abbrev bodyE (P : Program) (w : World) (K : PySem.W.Frag) (mg : Str → Option Value) (base : Heap) (N : List Str) (qual : Str) (scope : Scope) (f : Addr) (cd : Value) (A : Around) (outer : List Env) (s : Shared) (H : Hp) (E : XK) : Cx :=
  cxOf (L2.CX P w) P w K mg base N qual scope f cd A outer s H E
theorem fnX_of {k : Nat} {f : Addr} {name qual : Str} {pr : Arguments} {body : List Stmt} {sc : Scope} {dV kV doc pm cdv ctv oc : Value} {an od : Option Addr} {sl : Array (Option Value)} {N ps : List Str} {g : List W → Store → R W}
    (lk : K.lookup f = some ⟨oc, od, .func (PySem.W.fnOf name qual pr body sc dV kV doc pm an cdv ctv), sl⟩) (hcd : PySem.W.codeIn K cdv qual = true) (hS : FnScope N ps sc)
    (hb : ∀ (A : Around) (outer : List Env) (s : Shared) (H : Hp) (E : XK), Room k (A.deeper (envOfC qual sc s.heap.objs.size f cdv)) → A.guards = some [] → ∃ b : FS, (∀ ws S, ws.length = ps.length → g ws S = runX N.length b ws S) ∧
      PSs (bodyE P w K mg base N qual sc f cdv A outer s H E) body (tS ⟨K, ct⟩ (fun _ => E) b)) :
    FnG P w K mg base (L2.CX P w) (k + 1) f (PySem.W.fnOf name qual pr body sc dV kV doc pm an cdv ctv) ps (spG ⟨K, ct⟩ ps.length g) where
  len := fun vs H Q E h => h.1
  run := by
    intro A outer s H args us vs Q E room gd env bnd rel ⟨hlen, η, S, ws, rp, rr, fin⟩
    have hin : K.In s.heap := env.mod.kin.keeps fun c o z => (env.bs c o z).1
    have nolim : s.heap.NoLimit := env.mod.nolimit.keeps fun c o z => (env.bs c o z).1
    have kinds : ∀ p ∈ ps.zip us, sc.names.lookup p.1 = some .local ∨ (sc.names.lookup p.1 = some .cell ∧ ((cellsFrom (s.heap.objs.size + 1) sc.names []).lookup p.1).isSome = true) := by
      rintro ⟨m, u⟩ hm
      rcases hS.par m (List.of_mem_zip hm).1 with z | z
      · exact Or.inl z
      · exact Or.inr ⟨z, PySem.W.cellsFrom_some _ _ _ (Or.inl z)⟩
    refine codeAny_call_function room.depth (hin _ _ lk) rfl hS.co hS.gen rfl (PySem.W.codeRec_of hin hcd) (bnd _ _ _ _ ?_)
    refine wpAny_newFunctionEnv_cells hS.kind kinds fun en hen t1 tx => ?_
    subst hen
    refine ⟨nolim.keeps tx.toInCall.keep, codeAny_func ?_⟩
    obtain ⟨b, eqb, hbody⟩ := hb A outer s H E (room.deeper _) gd
    have inv0 := inv_start (CX := L2.CX P w) (E := E) hS room.hd env hlen rel tx
    have wl : ws.length = ps.length := by rw [rr.length]; exact hlen
    rw [eqb ws S wl] at fin
    have pre : tS ⟨K, ct⟩ (fun _ => E) b { nx := fun _ H' => Q .non H', rt := Q } (L2.start N vs) H := by
      refine ⟨η, startR N.length ws, S, rp, start_rep rr, ?_⟩
      unfold runX at fin
      cases eb : b (startR N.length ws) S with
      | next ρ2 S2 => rw [eb] at fin; exact fun η2 H2 σ2 f2 rp2 er2 => fin η2 H2 .non f2 rp2 (.d .none)
      | ret u S2 => rw [eb] at fin; exact fin
      | brk ρ2 S2 => rw [eb] at fin; exact fin.elim
      | cnt ρ2 S2 => rw [eb] at fin; exact fin.elim
      | exc c fs ρ2 S2 => rw [eb] at fin; exact fun η2 H2 σ2 C d us f2 rp2 er2 hc hd hf => fin η2 H2 C d us f2 rp2 hc hd hf
      | bad => rw [eb] at fin; exact fin.elim
    refine wpAny_mono (hbody.run [] t1 (L2.start N vs) H _ inv0 pre) (fun fl t2 hf => ?_) fun e t2 hf => hf
    cases fl with
    | ret u =>
      obtain ⟨v, σ2, H2, J, rv, q⟩ := hf
      exact ⟨v, H2, J.os, J.bare, J.base, J.hok, rv, q⟩
    | next =>
      obtain ⟨σ2, H2, J, q⟩ := hf
      exact ⟨V.non, H2, J.os, J.bare, J.base, J.hok, rfl, q⟩
    | brk => exact False.elim (let ⟨_, _, _, q⟩ := hf; q)
    | cont => exact False.elim (let ⟨_, _, _, q⟩ := hf; q)
end

/-! raise C(..), C an own class over ValueError whose __init__ puts its arguments in fields -/
/-- what C(e1, .., en) comes to: an exception with these fields -/
def tMkF (C : Addr) (fs : List Str) (ta : TA) : L2.St → Hp → XK → Prop := fun σ H Q => ta σ H fun vs H1 => vs.length = fs.length ∧ ∀ d, H1 d = none → Q (.ref C) (some d) (upd H1 d (.xd (fs.zip vs).reverse))
def fRaise (c : Nat) (fs : List Str) (a : FA) : FS := fun ρ S => toS ρ (a ρ S) fun ws S1 => if ws.length = fs.length then .exc c (fs.zip ws).reverse ρ S1 else .bad
theorem s_raise {X : Cx} {ct : Nat → Option Addr} {E : EX} {W0 : WX} {e : Expr} {pos : Pos} {c : Nat} {C : Addr} {fs : List Str} {fa : FA} (hc : X.calm = true) (tk : Takes X W0) (hE : ∀ σ cls d H, E σ cls d H → W0 cls d σ H) (hct : ct c = some C) {ta : TA} (he : PMk X e (tMkF C fs ta)) (hta : ∀ σ H Q, tA (gx X ct) E fa σ H Q → ta σ H Q) :
    PS X (.Raise (some e) none pos) (tS (gx X ct) E (fRaise c fs fa)) := PSw (ps_raise hc tk he) fun D σ H ⟨η, ρ, S, rp, er, h⟩ =>
  hta σ H _ ⟨η, ρ, S, rp, er, FinR.mono (FinS.bind (rel := relL (gx X ct)) er h) fun vs H1 ⟨η1, ws, S1, f1, rp1, r1, h1⟩ => by
    have h2 : FinS (gx X ct) E η1 H1 (if ws.length = fs.length then .exc c (fs.zip ws).reverse ρ S1 else .bad) D := h1
    by_cases hw : ws.length = fs.length
    · rw [if_pos hw] at h2
      refine ⟨by rw [← r1.length]; exact hw, fun d hd => hE _ _ _ _ ?_⟩
      have fn := fu_new (η := η1) (o := .xd (fs.zip vs).reverse) hd
      have lv : vs.length = fs.length := by rw [← r1.length]; exact hw
      refine h2 η1 _ σ C d _ fn (rp1.new hd) ((er.fu f1).fu fn) hct upd_same ⟨?_, ?_⟩
      · rw [List.map_reverse, List.map_reverse, List.map_fst_zip (by omega), List.map_fst_zip (by omega)]
      · rw [List.map_reverse, List.map_reverse, List.map_snd_zip (by omega), List.map_snd_zip (by omega)]
        exact RepWs.reverse (RepWs.fu fn _ _ r1)
    · rw [if_neg hw] at h2
      exact h2.elim⟩
end VI
set_option Elab.async false
set_option linter.all false
set_option maxRecDepth 100000
namespace VI
open PySem PySem.Spec PyProof.Rows L2

/-! own exception classes: __init__ puts its arguments in fields -/
def spInit (C : Addr) (fs : List Str) : Sp := fun vs H Q _ => ∃ (a : Addr) (us : List V), vs = .ref a :: us ∧ us.length = fs.length ∧ H a = some (exo a C none) ∧ ∀ dx, H dx = none → dx ≠ a → Q .non (upd (upd H dx (exd dx (fs.zip us).reverse)) a (exo a C (some dx)))
section
variable {P : Program} {w : World} {K : PySem.W.Frag} {mg : Str → Option Value} {base : Heap} {k : Nat} {C fI : Addr} {fd : FuncData} {qual : Str} {pr : Arguments} {body : List Stmt} {sc : Scope} {f1 f2 p1 p2 : Str}
theorem init_one (F : FunD K "__init__" qual pr body sc [] [] fI fd) (hS : FnScope ["self", p1] ["self", p1] sc) (T : OexC K C) (no1 : PySem.W.findIn K (.ref C) f1 = some none)
    (hb : ∀ (cdv : Value) (A : Around) (outer : List Env) (s : Shared) (H : Hp) (E : XK), PSs (cxOf CX0 P w K mg base ["self", p1] qual sc fI cdv A outer s H E) body (tOst K f1 (tVar 0) (tVar 1))) :
    FnOk P w K mg base CX0 (k + 1) fI fd ["self", p1] (spInit C [f1]) := by
  refine FunD.ok F hS (fun vs H Q E h => ?_) fun cdv A outer s H vs Q E hr h => ?_
  · obtain ⟨a, us, rfl, hl, _⟩ := h
    rw [List.length_cons, hl]
    rfl
  · obtain ⟨a, us, rfl, hl, ha, q⟩ := h
    match us, hl with
    | [y], _ =>
      refine ⟨_, hb cdv A outer s H E, ?_⟩
      exact ⟨y, rfl, .ref a, rfl, a, C, rfl, T, no1, .inl ⟨ha, fun dx hd ne => q dx hd ne⟩⟩
theorem init_two (F : FunD K "__init__" qual pr body sc [] [] fI fd) (hS : FnScope ["self", p1, p2] ["self", p1, p2] sc) (T : OexC K C) (no1 : PySem.W.findIn K (.ref C) f1 = some none) (no2 : PySem.W.findIn K (.ref C) f2 = some none)
    (hb : ∀ (cdv : Value) (A : Around) (outer : List Env) (s : Shared) (H : Hp) (E : XK), PSs (cxOf CX0 P w K mg base ["self", p1, p2] qual sc fI cdv A outer s H E) body (tSeq (tOst K f1 (tVar 0) (tVar 1)) (tOst K f2 (tVar 0) (tVar 2)))) :
    FnOk P w K mg base CX0 (k + 1) fI fd ["self", p1, p2] (spInit C [f1, f2]) := by
  refine FunD.ok F hS (fun vs H Q E h => ?_) fun cdv A outer s H vs Q E hr h => ?_
  · obtain ⟨a, us, rfl, hl, _⟩ := h
    rw [List.length_cons, hl]
    rfl
  · obtain ⟨a, us, rfl, hl, ha, q⟩ := h
    match us, hl with
    | [y, z], _ =>
      refine ⟨_, hb cdv A outer s H E, ?_⟩
      refine ⟨y, rfl, .ref a, rfl, a, C, rfl, T, no1, .inl ⟨ha, fun dx hd ne => ?_⟩⟩
      refine ⟨z, rfl, .ref a, rfl, a, C, rfl, T, no2, .inr ⟨dx, [(f1, y)], upd_same, ?_, by show 1 ≤ 900; decide, ?_⟩⟩
      · rw [upd_ne ne, upd_same]
      · have e : upd (upd (upd H dx (exd dx [(f1, y)])) a (exo a C (some dx))) dx (exd dx [(f2, z), (f1, y)]) = upd (upd H dx (exd dx [(f2, z), (f1, y)])) a (exo a C (some dx)) := by
          funext b
          by_cases h1 : b = dx
          · subst h1; rw [upd_same, upd_ne ne, upd_same]
          · rw [upd_ne h1]
            by_cases h2 : b = a
            · subst h2; rw [upd_same, upd_same]
            · rw [upd_ne h2, upd_ne h2, upd_ne h1, upd_ne h1]
        show Q .non _
        rw [e]
        exact q dx hd ne
end
/-- the class x at C, its fields fs -/
structure OwnX (P : Program) (w : World) (K : PySem.W.Frag) (mg : Str → Option Value) (base : Heap) (k : Nat) (x : Str) (C : Addr) (fs : List Str) : Prop where
  at_ : mg x = some (.ref C)
  T : OexC K C
  init : ∃ (fI : Addr) (fd : FuncData) (ps : List Str), PySem.W.findIn K (.ref C) "__init__" = some (some (.ref fI)) ∧ PySem.W.typeIn K (.ref fI) = some (.type "function") ∧ FnOk P w K mg base CX0 k fI fd ps (spInit C fs) ∧ Binds K fd ps []
theorem pmk_F {X : Cx} {ct : Nat → Option Addr} {E : EX} {k : Nat} {x : Str} {C : Addr} {fs : List Str} {e : Expr} {es : List Expr} {p pos : Pos} {fa : FA} (O : OwnX X.prog X.w X.K X.mg X.base k x C fs) (hr : Room (k + 1) X.A) (hn : fs.length ≤ 1000) (ha : PA X (e :: es) (tA (gx X ct) E fa)) (hg : Gl X x := by rfl)
    (hdb : (x == ("__debug__" : Str)) = false := by decide) (he : starEach (e :: es) X.env = (false, eval e X.env) :: starEach es X.env := by rfl) (hpl : (backTo pos (starEach es X.env)).any (·.1) = false := by rfl) :
    PMk X (.Call (.Name x p) (e :: es) [] pos) (tMkF C fs (tA (gx X ct) E fa)) := by
  obtain ⟨m, T, fI, fd, ps, iC, tI, F1, bn⟩ := O
  have base := pmk_oex (p := p) (ds := []) (dvs := []) T iC tI F1 hr bn .nil pass0 hg m ha hdb he hpl
  intro pins s σ H Q I ⟨η, ρ, S, rp, er, h⟩
  refine base pins s σ H Q I ⟨η, ρ, S, rp, er, FinR.mono h fun vs H1 ⟨hl, q⟩ => ?_⟩
  refine ⟨by rw [hl]; exact hn, fun a ha => ⟨a, vs, by rw [List.append_nil], hl, upd_same, fun dx hd ne => ?_⟩⟩
  have hd1 : H1 dx = none := by rw [upd_ne ne] at hd; exact hd
  refine ⟨rfl, dx, (fs.zip vs).reverse, upd_same, ?_, hd1, ?_⟩
  · rw [upd_ne ne, upd_same]
  · have e : upd (del (upd (upd (upd H1 a (exo a C none)) dx (exd dx (fs.zip vs).reverse)) a (exo a C (some dx))) a) dx (.xd (fs.zip vs).reverse) = upd H1 dx (.xd (fs.zip vs).reverse) := by
      funext b
      by_cases h1 : b = dx
      · subst h1; rw [upd_same, upd_same]
      · rw [upd_ne h1, upd_ne h1]
        by_cases h2 : b = a
        · subst h2; rw [del_same, ha]
        · rw [del_ne h2, upd_ne h2, upd_ne h1, upd_ne h2]
    rw [e]
    exact q dx hd1
theorem s_raiseC {X : Cx} {ct : Nat → Option Addr} {E : EX} {W0 : WX} {k c : Nat} {x : Str} {C : Addr} {fs : List Str} {e : Expr} {es : List Expr} {p pos pos2 : Pos} {fa : FA} (hc : X.calm = true) (tk : Takes X W0) (hE : ∀ σ cls d H, E σ cls d H → W0 cls d σ H) (hct : ct c = some C) (O : OwnX X.prog X.w X.K X.mg X.base k x C fs)
    (hr : Room (k + 1) X.A) (hn : fs.length ≤ 1000) (ha : PA X (e :: es) (tA (gx X ct) E fa)) (hg : Gl X x := by rfl) (hdb : (x == ("__debug__" : Str)) = false := by decide) (he : starEach (e :: es) X.env = (false, eval e X.env) :: starEach es X.env := by rfl) (hpl : (backTo pos (starEach es X.env)).any (·.1) = false := by rfl) :
    PS X (.Raise (some (.Call (.Name x p) (e :: es) [] pos)) none pos2) (tS (gx X ct) E (fRaise c fs fa)) :=
  s_raise hc tk hE hct (pmk_F (ct := ct) (E := E) O hr hn ha hg hdb he hpl) fun _ _ _ h => h
end VI
set_option Elab.async false
set_option linter.all false
set_option maxRecDepth 100000
namespace VI
open PySem PySem.Spec PyProof.Rows L2

/-! try with several clauses, each with a name or without -/
/-- a clause as it is read: its class, its slot if it gives a name, its suite -/
structure Cl where
  c : Value
  slot : Option Nat
  ts : Addr → Value → Option Addr → TS
def endsBy (D : Ends) : Option Nat → Ends
  | none => D
  | some i => { nx := fun σ H => D.nx (σ.set i none) H, rt := D.rt, bk := fun σ H => D.bk (σ.set i none) H, ct := fun σ H => D.ct (σ.set i none) H }
def slotBy (σ : L2.St) (a : Addr) : Option Nat → L2.St
  | none => σ
  | some i => σ.set i (some (.ref a))
def wMix (K : PySem.W.Frag) (Wout : WX) (D : Ends) : List Cl → WX
  | [] => Wout
  | k :: r => fun cls d σ H => ∃ b, PySem.W.exmOne K cls k.c = some b ∧ (b = true → ∀ a, H a = none → k.ts a cls d (endsBy D k.slot) (slotBy σ a k.slot) H) ∧ (b = false → wMix K Wout D r cls d σ H)
inductive ClsOk (X : Cx) : List ExceptHandler → List Cl → Prop
  | nil : ClsOk X [] []
  | plain {x : Str} {c : Value} {ts : Addr → Value → Option Addr → TS} {b0 : Stmt} {suite : List Stmt} {np q : Pos} {hds : List ExceptHandler} {l : List Cl} (hc : Names X x c)
      (hsu : ∀ (a : Addr) (oe : Obj) (cls : Value) (d : Option Addr) (pn : List (Addr × Obj)), Zc cls d oe → (∃ vs, oe.data = .fields vs) → PSs (X.suite a ((a, oe) :: pn)) (b0 :: suite) (ts a cls d)) (r : ClsOk X hds l) :
      ClsOk X (.ExceptHandler (some (.Name x np)) none (b0 :: suite) q :: hds) (⟨c, none, ts⟩ :: l)
  | named {x y : Str} {c : Value} {i : Nat} {ts : Addr → Value → Option Addr → TS} {b0 : Stmt} {suite : List Stmt} {np q : Pos} {hds : List ExceptHandler} {l : List Cl} (hc : Names X x c) (hN : X.N.Nodup) (hi : X.N[i]? = some y) (hy : X.env.kindOf y = some .local)
      (hsu : ∀ (a : Addr) (oe : Obj) (cls : Value) (d : Option Addr) (pn : List (Addr × Obj)), Zc cls d oe → (∃ vs, oe.data = .fields vs) → PSs (X.suite a ((a, oe) :: pn)) (b0 :: suite) (ts a cls d)) (r : ClsOk X hds l) :
      ClsOk X (.ExceptHandler (some (.Name x np)) (some y) (b0 :: suite) q :: hds) (⟨c, some i, ts⟩ :: l)
section
variable {X : Cx} {body : List Stmt} {h0 : ExceptHandler} {hds : List ExceptHandler} {l : List Cl} {pos : Pos} {tb : WX → TS} {Wout : WX}
/-- an exception that has landed at a, the clauses left -/
theorem mix_go (hs : X.stack = X.env :: X.outer) (hf : X.env.frame = some X.env.locals) (tk : Takes X Wout) {pins : List (Addr × Obj)} {D : Ends} {B : Heap} {sI s' : Shared} {a : Addr} {σ' : L2.St} {H' : Hp} {cls : Value} {d : Option Addr} {h3 : Heap} (ok : X.Ok)
    (J : Inv X pins σ' H' sI) (nb : ∀ b o, sI.heap.get? b = some o → b ∉ frs X.stack → B.get? b = some o) (up : sI.heap.UpToSlots s'.heap) (up3 : s'.heap.UpToSlots h3) (na : H' a = none) (os : s'.os = sI.os) (ag : AllBare s'.gens)
    (nL : a ≠ X.env.locals) (nF : a ∉ X.fs) (fl3 : HandSPX.FlyingZ B (X.env :: X.outer) a (Zc cls d) h3) :
    ∀ {cs : List ExceptHandler} {m : List Cl}, ClsOk X cs m → wMix X.K Wout D m cls d σ' H' → wpAny (model X.prog X.w) X.A (handleBy (.ref a) X.env cs) (SP X pins D) X.xe { s' with heap := h3 } := by
  have J3 : Inv X pins σ' H' { s' with heap := h3 } := J.landed nb fl3.1 (up.trans up3) os ag
  obtain ⟨oe3, vs3, he3, hz3, hd3⟩ := fl3.there
  have S3 := J3.suite he3 hd3 na nL nF
  have asked : ∀ {x : Str} {c : Value} {np : Pos} {Q : Value → Shared → Prop} {E : Value → Shared → Prop}, Names X x c → Q c { s' with heap := h3 } → wpAny (model X.prog X.w) (X.A.mark (some (.ref a))) (eval (.Name x np) X.env) Q E { s' with heap := h3 } := fun {x c np Q E} hc q => by
    obtain ⟨g1, g2, g3 | ⟨g3, g4, g5⟩⟩ := hc
    · exact ld_glob (X := X.suite a ((a, oe3) :: (X.pn ++ pins))) S3 g1 g3 q g2
    · exact ld_blt (X := X.suite a ((a, oe3) :: (X.pn ++ pins))) S3 g1 g3 g4 q g5 g2
  have looks : ∀ {c : Value} {b : Bool}, PySem.W.exmOne X.K cls c = some b → _ := fun {c b} e => PySem.W.exm_one (M := model X.prog X.w) J3.kIn (show PySem.W.Looks (model X.prog X.w) h3 (typeOf (.ref a)) cls from fun A Q E s k q => wpAny_typeOf_ref (k _ _ he3) (by rw [hz3.1]; exact q)) e
  intro cs m hk
  induction hk with
  | nil =>
    intro w
    refine wpAny_handleBy_nil ?_
    obtain ⟨_, _, _, oe, vs, T, _, _, he, _, hd, h1, _⟩ := id fl3
    unfold PySem.passOn
    refine wpAny_bind (wpAny_field he hd h1 ?_)
    rw [if_neg (show ¬ ((Value.ref T == Value.none) = true) from by simp)]
    have again : wpAny (model X.prog X.w) X.A (setFlight (.ref a) X.env.frame) (fun _ s4 => wpAny (model X.prog X.w) X.A (throw (.ref a) : Sem Flow) (SP X pins D) X.xe s4) X.xe { s' with heap := h3 } := by
      rw [hf]
      exact HandSPX.setFlight_upZ fl3 fun h4 hh4 up4 => wpAny_throw (tk _ _ ⟨a, B, sI, pins, σ', H', cls, d, rfl, J, nb, (up.trans up3).trans up4, .inr (.inr (by rw [hs]; exact hh4)), na, os, ag, w⟩)
    first
      | exact wpAny_bind (wpAny_pure (wpAny_bind again))
      | exact wpAny_bind again
  | plain hc hsu _ ih =>
    rintro ⟨b, e, yes, no⟩
    refine wpAny_handleBy_cons (codeAny_handlers_test ?_) (by intro z; cases z)
    refine asked hc ((looks e).here ?_)
    cases b with
    | false => exact ih (no rfl)
    | true =>
      refine codeAny_handlers_suite (HandSPX.lands_againZ fl3 fun h4 fl4 up4 => ?_)
      have J4 : Inv X pins σ' H' { s' with heap := h4 } := J.landed nb fl4.1 ((up.trans up3).trans up4) os ag
      obtain ⟨oe4, vs4, he4, hz4, hd4⟩ := fl4.there
      refine wpAny_mono ((hsu a oe4 cls d (X.pn ++ pins) hz4 ⟨_, hd4⟩).run [] _ _ H' _ (J4.suite he4 hd4 na nL nF) (yes rfl a na)) (fun f s6 hsp => ?_) fun _ _ z => z.elim
      cases f with
      | next => obtain ⟨σ6, H6, S6, q6⟩ := hsp; exact ⟨_, _, S6.unsuite ok, q6⟩
      | brk => obtain ⟨σ6, H6, S6, q6⟩ := hsp; exact ⟨_, _, S6.unsuite ok, q6⟩
      | cont => obtain ⟨σ6, H6, S6, q6⟩ := hsp; exact ⟨_, _, S6.unsuite ok, q6⟩
      | ret u => obtain ⟨v6, σ6, H6, S6, r6, q6⟩ := hsp; exact ⟨_, _, _, S6.unsuite ok, r6, q6⟩
  | @named x y c i ts b0 suite np q hds l hc hN hi hy hsu _ ih =>
    rintro ⟨b, e, yes, no⟩
    refine wpAny_handleBy_cons (codeAny_handlers_test ?_) (by intro z; cases z)
    refine asked hc ((looks e).here ?_)
    cases b with
    | false => exact ih (no rfl)
    | true =>
      refine codeAny_handlers_suite_as (HandSPX.lands_againZ fl3 fun h4 fl4 up4 => ?_)
      have J4 : Inv X pins σ' H' { s' with heap := h4 } := J.landed nb fl4.1 ((up.trans up3).trans up4) os ag
      obtain ⟨oe4, vs4, he4, hz4, hd4⟩ := fl4.there
      refine store_ok (X := X.suite a ((a, oe4) :: (X.pn ++ pins))) (v := .ref a) (J4.suite he4 hd4 na nL nF) hN hi (.inl hy) rfl (fun s5 S5 => ?_) (.inr hy)
      refine wpAny_mono ((hsu a oe4 cls d (X.pn ++ pins) hz4 ⟨_, hd4⟩).run [] s5 _ H' _ S5 (yes rfl a na)) (fun f s6 hsp => ?_) fun _ _ z => z.elim
      have gone : ∀ {σ6 : L2.St} {H6 : Hp} {Q : Shared → Prop}, Inv (X.suite a ((a, oe4) :: (X.pn ++ pins))) [] σ6 H6 s6 → (∀ s7, Inv X pins (σ6.set i none) H6 s7 → Q s7) →
          wpAny (model X.prog X.w) X.A (do bindName X.env y .none; unbindBehindTheSuite X.env y q) (fun _ s7 => Q s7) X.xe s6 := fun {σ6 H6 Q} S6 hq => gone_ok (S6.unsuite ok) hN hi hy hq
      cases f with
      | next => obtain ⟨σ6, H6, S6, q6⟩ := hsp; exact gone S6 fun s7 J7 => ⟨_, _, J7, q6⟩
      | brk => obtain ⟨σ6, H6, S6, q6⟩ := hsp; exact gone S6 fun s7 J7 => ⟨_, _, J7, q6⟩
      | cont => obtain ⟨σ6, H6, S6, q6⟩ := hsp; exact gone S6 fun s7 J7 => ⟨_, _, J7, q6⟩
      | ret u => obtain ⟨v6, σ6, H6, S6, r6, q6⟩ := hsp; exact gone S6 fun s7 J7 => ⟨_, _, _, J7, r6, q6⟩
theorem ps_try_mix (hs : X.stack = X.env :: X.outer) (hf : X.env.frame = some X.env.locals) (tk : Takes X Wout)
    (hb : ∀ (W : WX) (pn : List (Addr × Obj)) (xe : Value → Shared → Prop), Takes (X.tr pn xe) W → PassesOwn (model X.prog X.w) X.A X.env xe → PSs (X.tr pn xe) body (tb W))
    (hh : ClsOk X (h0 :: hds) l) : PS X (.Try body (h0 :: hds) [] [] pos) (fun D σ H => tb (wMix X.K Wout D l) D σ H) := ⟨fun pins s σ H D I h => by
  have ok := I.ok
  have hfr : X.A.frames = some (X.env :: X.outer) := by rw [ok.frames, hs]
  refine wpAny_Try_except ?_
  refine wpAny_mono ((hb (wMix X.K Wout D l) (X.pn ++ pins) (fun e s1 => wpAny (model X.prog X.w) X.A (noteFrame e X.env) (fun _ s2 => wpAny (model X.prog X.w) X.A (setFlight e none) (fun _ s3 =>
    wpAny (model X.prog X.w) X.A (handleBy e X.env (h0 :: hds)) (SP X pins D) X.xe s3) X.xe s2) X.xe s1) (fun u s' air => ?_) PassesOwn.looking).run [] s σ H D (I.toTry _) h) (fun f s1 hsp => ?_) fun _ _ z => z
  · obtain ⟨a, B, sI, pins', σ', H', cls, d, rfl, J', nb, up, sky, na, os, ag, w⟩ := air
    have J : Inv X pins σ' H' sI := J'.ofTry ok
    show wpAny (model X.prog X.w) X.A (noteFrame (.ref a) X.env) _ _ _
    refine Sky.land Zc.steady hfr hf (by rw [← hs]; exact sky) fun h3 fl3 up3 => ?_
    obtain ⟨oe3, vs3, he3, hz3, hd3⟩ := fl3.there
    have nfr : a ∉ frs (X.env :: X.outer) := fun hm => by
      obtain ⟨_, o', e', hnf⟩ := fl3.2.2.1.mem hm
      rw [he3] at e'
      cases e'
      exact hnf _ hd3
    refine mix_go hs hf tk ok J nb up up3 na os ag (fun z => nfr (List.mem_filterMap.mpr ⟨X.env, List.mem_cons_self, by rw [hf, z]⟩)) (fun hm => ?_) fl3 hh w
    obtain ⟨e, he, q⟩ := List.mem_filterMap.mp hm
    exact nfr (List.mem_filterMap.mpr ⟨e, List.mem_cons_of_mem _ he, q⟩)
  · cases f with
    | next => obtain ⟨σ', H', J', q⟩ := hsp; exact wpAny_execs_nil ⟨σ', H', J'.ofTry ok, q⟩
    | brk => obtain ⟨σ', H', J', q⟩ := hsp; exact ⟨σ', H', J'.ofTry ok, q⟩
    | cont => obtain ⟨σ', H', J', q⟩ := hsp; exact ⟨σ', H', J'.ofTry ok, q⟩
    | ret u => obtain ⟨v, σ', H', J', r, q⟩ := hsp; exact ⟨v, σ', H', J'.ofTry ok, r, q⟩⟩
end
end VI
set_option Elab.async false
set_option linter.all false
set_option maxRecDepth 100000
namespace VI
open PySem PySem.Spec PyProof.Rows L2

/-! try: .. / except C as e: return (c1, e.f1, ..) -/
inductive Xp where
  | k (d : PyData)
  | fld (f : Str)
def constV : PyData → Option V
  | .none => some .non
  | .bool b => some (.bl b)
  | .int i => some (.int i)
  | .str x => some (.str x)
  | _ => none
theorem constV_rep {K : PySem.W.Frag} {η : List Addr} {H : Hp} {d : PyData} {v : V} (e : constV d = some v) : RepD K η H d v := by
  cases d <;> cases e <;> constructor
def xpW (fs : List (Str × W)) : Xp → Option W
  | .k d => some (.d d)
  | .fld f => fs.lookup f
def xpsW (fs : List (Str × W)) : List Xp → Option (List W)
  | [] => some []
  | x :: r => match xpW fs x, xpsW fs r with
    | some w, some ws => some (w :: ws)
    | _, _ => none
def XpV (us : List (Str × V)) : Xp → V → Prop
  | .k d, v => constV d = some v
  | .fld f, v => us.lookup f = some v
abbrev XpsV (us : List (Str × V)) : List Xp → List V → Prop := Paired (XpV us)
def Xp.flat : Xp → Bool
  | .k d => (constV d).isSome
  | .fld _ => true
theorem lookup_rep {K : PySem.W.Frag} {η : List Addr} {H : Hp} : ∀ {fs : List (Str × W)} {us : List (Str × V)} {f : Str} {w : W}, fs.map (·.1) = us.map (·.1) → RepWs K η H (fs.map (·.2)) (us.map (·.2)) → fs.lookup f = some w → ∃ v, us.lookup f = some v ∧ RepW K η H w v
  | [], _, _, _, _, _, e => by cases e
  | (a, w0) :: fs, [], _, _, h, _, _ => by cases h
  | (a, w0) :: fs, (b, v0) :: us, f, w, h, r, e => by
    have hab : a = b := (List.cons.inj h).1
    subst hab
    cases r with
    | cons r1 r2 =>
      rw [List.lookup_cons] at e ⊢
      cases q : f == a with
      | true =>
        rw [q] at e
        have z : w0 = w := Option.some.inj e
        subst z
        exact ⟨v0, rfl, r1⟩
      | false =>
        rw [q] at e
        exact lookup_rep (List.cons.inj h).2 r2 e
theorem xps_rep {K : PySem.W.Frag} {η : List Addr} {H : Hp} {fs : List (Str × W)} {us : List (Str × V)} (h1 : fs.map (·.1) = us.map (·.1)) (h2 : RepWs K η H (fs.map (·.2)) (us.map (·.2))) : ∀ {xs : List Xp} {ws : List W}, xs.all Xp.flat = true → xpsW fs xs = some ws → ∃ vs, XpsV us xs vs ∧ RepWs K η H ws vs
  | [], ws, _, e => by cases e; exact ⟨[], .nil, .nil⟩
  | x :: xs, ws, hf, e => by
    rw [List.all_cons, Bool.and_eq_true] at hf
    rw [xpsW] at e
    cases q : xpW fs x with
    | none => rw [q] at e; cases e
    | some w =>
      cases q2 : xpsW fs xs with
      | none => rw [q, q2] at e; cases e
      | some ws2 =>
        rw [q, q2] at e
        cases e
        obtain ⟨vs, p, r⟩ := xps_rep h1 h2 hf.2 q2
        cases x with
        | k d =>
          cases q
          obtain ⟨v, ev⟩ := Option.isSome_iff_exists.mp hf.1
          exact ⟨v :: vs, .cons ev p, .cons (.d (constV_rep ev)) r⟩
        | fld f =>
          obtain ⟨v, ev, rv⟩ := lookup_rep h1 h2 q
          exact ⟨v :: vs, .cons ev p, .cons rv r⟩
/-- what is said of the parts of such a suite: i the slot of the exception's name, Cs the classes that may come -/
structure XArgs (X : Cx) (i : Option Nat) (Cs : Addr → Prop) (es : List Expr) (xs : List Xp) : Prop where
  run : ∀ (a : Addr) (oe : Obj) (cls : Value) (d : Option Addr) (pn : List (Addr × Obj)) (C : Addr), Zc cls d oe → (∃ vs, oe.data = .fields vs) → cls = .ref C → Cs C → ∃ t : TA, PA (X.suite a ((a, oe) :: pn)) es t ∧
    ∀ (σ : L2.St) (H : Hp) (Q : List V → Hp → Prop) (dd : Addr) (us : List (Str × V)) (vs : List V), (∀ j, i = some j → σ[j]? = some (some (.ref a))) → d = some dd → H dd = some (.xd us) → XpsV us xs vs → Q vs H → t σ H Q
section
variable {X : Cx} {i : Option Nat} {Cs : Addr → Prop} {es : List Expr} {xs : List Xp}
theorem xa_nil : XArgs X i Cs [] [] := ⟨fun a oe cls d pn C _ _ _ _ => ⟨_, pa_nil, fun σ H Q dd us vs _ _ _ p q => by cases p; exact q⟩⟩
theorem xa_const {e : Expr} {d0 : PyData} {v0 : V} (hd : constV d0 = some v0) (he : ∀ (a : Addr) (oe : Obj) (pn : List (Addr × Obj)), PE (X.suite a ((a, oe) :: pn)) e (tC v0)) (hr : XArgs X i Cs es xs) (hs : starEach (e :: es) X.env = (false, eval e X.env) :: starEach es X.env := by rfl) : XArgs X i Cs (e :: es) (.k d0 :: xs) := ⟨fun a oe cls d pn C z f hC hCs => by
  obtain ⟨t, pt, ht⟩ := hr.run a oe cls d pn C z f hC hCs
  refine ⟨_, pa_cons (he a oe pn) pt hs, fun σ H Q dd us vs sl ed ex p q => ?_⟩
  cases p with
  | @cons _ v _ ws p1 p2 =>
    have ev : v0 = v := Option.some.inj (hd.symm.trans p1)
    subst ev
    exact ht σ H (fun ws' H' => Q (v0 :: ws') H') dd us ws sl ed ex p2 q⟩
theorem xa_fld {j : Nat} {x f : Str} {p1 p2 : Pos} (hT : ∀ C, Cs C → XfC X.K C ∧ PySem.W.findIn X.K (.ref C) f = some none) (hr : XArgs X (some j) Cs es xs) (hj : X.N[j]? = some x := by rfl) (hv : Vis X.env.scope x := by first | exact Or.inl rfl | exact Or.inr (Or.inl rfl) | exact Or.inr (Or.inr rfl))
    (hd : (x == ("__debug__" : Str)) = false := by decide) (hcd : (x == ("__classdict__" : Str)) = false := by decide) (hb : attributeBase (.Name x p1) f X.env (eval (.Name x p1) X.env) = eval (.Name x p1) X.env := by rfl)
    (hs : starEach (.Attribute (.Name x p1) f p2 :: es) X.env = (false, eval (.Attribute (.Name x p1) f p2) X.env) :: starEach es X.env := by rfl) : XArgs X (some j) Cs (.Attribute (.Name x p1) f p2 :: es) (.fld f :: xs) := ⟨fun a oe cls d pn C z fl hC hCs => by
  obtain ⟨t, pt, ht⟩ := hr.run a oe cls d pn C z fl hC hCs
  obtain ⟨T, no⟩ := hT C hCs
  have he : PE (X.suite a ((a, oe) :: pn)) (.Name x p1) (tVar j) := pe_var hj hv hd hcd
  refine ⟨_, pa_cons (pe_xf T no z fl he hb) pt hs, fun σ H Q dd us vs sl ed ex p q => ?_⟩
  cases p with
  | @cons _ v _ ws q1 q2 =>
    exact ⟨.ref a, sl j rfl, rfl, hC, dd, us, v, ed, ex, q1, ht σ H (fun ws' H' => Q (v :: ws') H') dd us ws sl ed ex q2 q⟩⟩
/-- the suite's reading -/
def tsX (Cs : Addr → Prop) (i : Option Nat) (xs : List Xp) : Addr → Value → Option Addr → TS := fun a cls d D σ H => ∃ (C dd : Addr) (us : List (Str × V)) (vs : List V), cls = .ref C ∧ Cs C ∧ d = some dd ∧ H dd = some (.xd us) ∧ (∀ j, i = some j → σ[j]? = some (some (.ref a))) ∧ XpsV us xs vs ∧
  vs.length ≤ sizeLine ∧ ∀ p, H p = none → D.rt (.ref p) (upd H p (.tup vs))
theorem suite_ret {k : Nat} {p1 pos : Pos} (hx : XArgs X i Cs es xs) (a : Addr) (oe : Obj) (cls : Value) (d : Option Addr) (pn : List (Addr × Obj)) (z : Zc cls d oe) (f : ∃ vs, oe.data = .fields vs) :
    PSs (X.suite a ((a, oe) :: pn)) [.Return (some (.Tuple es k p1)) pos] (tsX Cs i xs a cls d) := ⟨fun pins s σ H D I ⟨C, dd, us, vs, e1, e2, e3, e4, e5, e6, e7, e8⟩ => by
  obtain ⟨t, pt, ht⟩ := hx.run a oe cls d pn C z f e1 e2
  exact (pss_one (ps_ret (pe_tup pt))).run pins s σ H D I (ht σ H _ dd us vs e5 e3 e4 e6 ⟨e7, e8⟩)⟩
end
/-- except c (as the name at slot): return (xs) -/
structure Hd where
  c : Nat
  slot : Option Nat
  xs : List Xp
def tryHs (sub : Nat → Nat → Bool) (c : Nat) (fs : List (Str × W)) (ρ : Rho) (S : Store) : List Hd → RF
  | [] => .exc c fs ρ S
  | h :: r => if sub c h.c = true then (match xpsW fs h.xs with
    | some ws => .ret (mkT ws) S
    | none => .bad) else tryHs sub c fs ρ S r
def fTry (sub : Nat → Nat → Bool) (b : FS) (hs : List Hd) : FS := fun ρ S => match b ρ S with
  | .exc c fs ρ1 S1 => tryHs sub c fs ρ1 S1 hs
  | r => r
/-- the classes that clause h takes -/
def Takers (ct : Nat → Option Addr) (sub : Nat → Nat → Bool) (h : Nat) (C : Addr) : Prop := ∃ c, ct c = some C ∧ sub c h = true
inductive HsOk (X : Cx) (ct : Nat → Option Addr) (sub : Nat → Nat → Bool) : List ExceptHandler → List Hd → List Cl → Prop
  | nil : HsOk X ct sub [] [] []
  | plain {x : Str} {cv : Value} {c : Nat} {xs : List Xp} {es : List Expr} {k : Nat} {p1 p2 np q : Pos} {hds : List ExceptHandler} {hs : List Hd} {l : List Cl} (hc : Names X x cv) (hsub : ∀ c' C, ct c' = some C → PySem.W.exmOne X.K (.ref C) cv = some (sub c' c))
      (hz : xs.length ≤ 1000) (hfl : xs.all Xp.flat = true) (hx : XArgs X none (Takers ct sub c) es xs) (r : HsOk X ct sub hds hs l) : HsOk X ct sub (.ExceptHandler (some (.Name x np)) none [.Return (some (.Tuple es k p1)) p2] q :: hds) (⟨c, none, xs⟩ :: hs) (⟨cv, none, tsX (Takers ct sub c) none xs⟩ :: l)
  | named {x y : Str} {i : Nat} {cv : Value} {c : Nat} {xs : List Xp} {es : List Expr} {k : Nat} {p1 p2 np q : Pos} {hds : List ExceptHandler} {hs : List Hd} {l : List Cl} (hc : Names X x cv) (hN : X.N.Nodup) (hi : X.N[i]? = some y) (hy : X.env.kindOf y = some .local) (hsub : ∀ c' C, ct c' = some C → PySem.W.exmOne X.K (.ref C) cv = some (sub c' c))
      (hz : xs.length ≤ 1000) (hfl : xs.all Xp.flat = true) (hx : XArgs X (some i) (Takers ct sub c) es xs) (r : HsOk X ct sub hds hs l) : HsOk X ct sub (.ExceptHandler (some (.Name x np)) (some y) [.Return (some (.Tuple es k p1)) p2] q :: hds) (⟨c, some i, xs⟩ :: hs) (⟨cv, some i, tsX (Takers ct sub c) (some i) xs⟩ :: l)
section
variable {X : Cx} {ct : Nat → Option Addr} {sub : Nat → Nat → Bool}
theorem HsOk.cls {cs : List ExceptHandler} {hs : List Hd} {l : List Cl} (h : HsOk X ct sub cs hs l) : ClsOk X cs l := by
  induction h with
  | nil => exact .nil
  | plain hc hsub hz hfl hx r ih => exact .plain hc (fun a oe cls d pn z f => suite_ret hx a oe cls d pn z f) ih
  | named hc hN hi hy hsub hz hfl hx r ih => exact .named hc hN hi hy (fun a oe cls d pn z f => suite_ret hx a oe cls d pn z f) ih
theorem try_key {E : EX} {Wout : WX} {D : Ends} {c : Nat} {fs : List (Str × W)} {ρ : Rho} {S : Store} {η : List Addr} {H : Hp} (hE : ∀ σ cls d H, E σ cls d H → Wout cls d σ H) {cs : List ExceptHandler} {hs : List Hd} {l : List Cl} (hh : HsOk X ct sub cs hs l) (h : FinS (gx X ct) E η H (tryHs sub c fs ρ S hs) D) :
    ∀ η' H' σ C d vs, Fu η H η' H' → Rp X.K η' H' S → ERep X.K η' H' ρ σ → ct c = some C → H' d = some (.xd vs) → RepF X.K η' H' fs vs → X.N.length ≤ σ.length → wMix X.K Wout D l (.ref C) (some d) σ H' := by
  intro η' H' σ C d vs f rp er hct hd hf hσ
  have body : ∀ {k : Hd} {i : Option Nat} {σ2 : L2.St} {a : Addr}, (match xpsW fs k.xs with | some ws => RF.ret (mkT ws) S | none => .bad) = .bad ∨ True → k.xs.length ≤ 1000 → k.xs.all Xp.flat = true → sub c k.c = true → FinS (gx X ct) E η H (match xpsW fs k.xs with | some ws => .ret (mkT ws) S | none => .bad) D → (∀ j, i = some j → σ2[j]? = some (some (.ref a))) →
      ∀ D2 : Ends, D2.rt = D.rt → tsX (Takers ct sub k.c) i k.xs a (.ref C) (some d) D2 σ2 H' := by
    intro k i σ2 a _ hz hfl hs1 h2 sl D2 hD2
    cases q : xpsW fs k.xs with
    | none => rw [q] at h2; exact h2.elim
    | some ws =>
      rw [q] at h2
      obtain ⟨us, p, r⟩ := xps_rep hf.1 hf.2 hfl q
      have lz : us.length ≤ sizeLine := by
        have e1 : k.xs.length = us.length := Paired.length p
        rw [sizeLine_eq]
        omega
      refine ⟨C, d, vs, us, rfl, ⟨c, hct, hs1⟩, rfl, hd, sl, p, lz, fun pp np => ?_⟩
      rw [hD2]
      exact h2 η' _ (.ref pp) (f.trans (fu_new np)) (rp.new np) (RepWs.mk (SqT.of upd_same) (RepWs.fu (fu_new np) _ _ r))
  induction hh with
  | nil => exact hE _ _ _ _ (h η' H' σ C d vs f rp er hct hd hf)
  | plain hc hsub hz hfl hx r ih =>
    refine ⟨_, hsub c C hct, fun e a na => ?_, fun e => ih ?_⟩
    · rw [tryHs, if_pos e] at h
      exact body (.inr trivial) hz hfl e h (fun j z => by cases z) D rfl
    · rw [tryHs, if_neg (by rw [e]; decide)] at h
      exact h
  | @named x y i cv c2 xs es k p1 p2 np q hds hs l hc hN hi hy hsub hz hfl hx r ih =>
    refine ⟨_, hsub c C hct, fun e a na => ?_, fun e => ih ?_⟩
    · rw [tryHs, if_pos e] at h
      refine body (i := some i) (.inr trivial) hz hfl e h (fun j z => ?_) _ rfl
      cases z
      exact List.getElem?_set_self (Nat.lt_of_lt_of_le (List.getElem?_eq_some_iff.mp hi).1 hσ)
    · rw [tryHs, if_neg (by rw [e]; decide)] at h
      exact h
end
end VI
set_option Elab.async false
set_option linter.all false
set_option maxRecDepth 100000
namespace VI
open PySem PySem.Spec PyProof.Rows L2

/-! try as a rule of functions -/
/-- n: how many slots the def has -/
def fTryN (n : Nat) (sub : Nat → Nat → Bool) (b : FS) (hs : List Hd) : FS := fun ρ S => match b ρ S with
  | .exc c fs ρ1 S1 => if n ≤ ρ1.length then tryHs sub c fs ρ1 S1 hs else .bad
  | r => r
theorem s_try {X : Cx} {ct : Nat → Option Addr} {E : EX} {Wout : WX} {sub : Nat → Nat → Bool} {body : List Stmt} {h0 : ExceptHandler} {hds : List ExceptHandler} {hs : List Hd} {l : List Cl} {b : FS} {pos : Pos} {n : Nat}
    (tk : Takes X Wout) (hE : ∀ σ cls d H, E σ cls d H → Wout cls d σ H) (hn : X.N.length = n)
    (hb : ∀ (W : WX) (pn : List (Addr × Obj)) (xe : Value → Shared → Prop), Takes (X.tr pn xe) W → PassesOwn (model X.prog X.w) X.A X.env xe → PSs (X.tr pn xe) body (tS (gx X ct) (WE W) b))
    (hh : HsOk X ct sub (h0 :: hds) hs l) (hst : X.stack = X.env :: X.outer := by rfl) (hf : X.env.frame = some X.env.locals := by rfl) : PS X (.Try body (h0 :: hds) [] [] pos) (tS (gx X ct) E (fTryN n sub b hs)) :=
  PSw (ps_try_mix (tb := fun W => tS (gx X ct) (WE W) b) hst hf tk hb hh.cls) fun D σ H ⟨η, ρ, S, rp, er, h⟩ => by
    refine ⟨η, ρ, S, rp, er, ?_⟩
    unfold fTryN at h
    cases q : b ρ S with
    | next ρ2 S2 => rw [q] at h; exact h
    | ret u S2 => rw [q] at h; exact h
    | brk ρ2 S2 => rw [q] at h; exact h
    | cnt ρ2 S2 => rw [q] at h; exact h
    | bad => rw [q] at h; exact h
    | exc c fs ρ1 S1 =>
      rw [q] at h
      have h2 : FinS (gx X ct) E η H (if n ≤ ρ1.length then tryHs sub c fs ρ1 S1 hs else .bad) D := h
      by_cases hl : n ≤ ρ1.length
      · rw [if_pos hl] at h2
        intro η' H' σ' C d vs f rp1 er1 hct hd hfs
        exact try_key hE hh h2 η' H' σ' C d vs f rp1 er1 hct hd hfs (by rw [hn, er1.1]; exact hl)
      · rw [if_neg hl] at h2
        exact h2.elim
end VI
set_option Elab.async false
set_option linter.all false
set_option maxRecDepth 100000
namespace VI
open PySem PySem.Spec PyProof.Rows L2

/-! a module with own exception classes: what its defs are told -/
/-- class number c: the name x, its fields fs; it may be raised -/
def KRaise (P : Program) (w : World) (K : PySem.W.Frag) (mg : Str → Option Value) (base : Heap) (ct : Nat → Option Addr) (c : Nat) (x : Str) (fs : List Str) : Prop := ∃ C : Addr, ct c = some C ∧ OwnX P w K mg base 1 x C fs
/-- class number c, the name x: what an except clause finds of it -/
def KTake (K : PySem.W.Frag) (mg : Str → Option Value) (ct : Nat → Option Addr) (sub : Nat → Nat → Bool) (c : Nat) (x : Str) : Prop := ∃ cv : Value, mg x = some cv ∧ ∀ c' C, ct c' = some C → PySem.W.exmOne K (.ref C) cv = some (sub c' c)
/-- the field f of what clause c takes -/
def KField (K : PySem.W.Frag) (ct : Nat → Option Addr) (sub : Nat → Nat → Bool) (c : Nat) (f : Str) : Prop := ∀ C, Takers ct sub c C → XfC K C ∧ PySem.W.findIn K (.ref C) f = some none
section
variable {P : Program} {w : World} {K : PySem.W.Frag} {mg : Str → Option Value} {base : Heap} {ct : Nat → Option Addr} {n : Nat} {x : Str} {st : Stmt} {N ps : List Str} {g : List W → Store → R W} {b : FS}
theorem room_two {A : Around} (h : 2 ≤ n) (r : Room n A) : Room 2 A := by
  have d := r.dp
  have u := r.un
  exact { r with dp := by omega, un := by omega }
theorem takes_none {X : Cx} : Takes X (fun _ _ _ _ => False) := fun u s' x => by
  obtain ⟨a, B, sI, pins, σ, H, cls, d, e, I, nb, up, sky, na, os, ag, z⟩ := x
  exact z.elim
theorem raise_E {X : Cx} {E : EX} {W0 : WX} {c : Nat} {fs : List Str} {e : Expr} {es : List Expr} {p pos pos2 : Pos} {fa : FA} (k : KRaise X.prog X.w X.K X.mg X.base ct c x fs) (hc : X.calm = true) (tk : Takes X W0) (hE : ∀ σ cls d H, E σ cls d H → W0 cls d σ H)
    (hr : Room 2 X.A) (hn : fs.length ≤ 1000) (ha : PA X (e :: es) (tA (gx X ct) E fa)) (hg : Gl X x := by rfl) (hdb : (x == ("__debug__" : Str)) = false := by decide) (he : starEach (e :: es) X.env = (false, eval e X.env) :: starEach es X.env := by rfl) (hpl : (backTo pos (starEach es X.env)).any (·.1) = false := by rfl) :
    PS X (.Raise (some (.Call (.Name x p) (e :: es) [] pos)) none pos2) (tS (gx X ct) E (fRaise c fs fa)) := by
  obtain ⟨C, hct, O⟩ := k
  exact s_raiseC hc tk hE hct O hr hn ha hg hdb he hpl
theorem calleeX_zero (D : DefAt K mg x st) (hB : Bnd x st ps) (h : ∀ ws S, g ws S = .bad) : CalleeC (L2.CX P w) P w K mg base ct n x ps g := by
  obtain ⟨f, fd, F, m⟩ := D
  refine ⟨f, fd, ⟨fun vs H Q E h => h.1, fun A outer s H args us vs Q E _ _ _ _ _ hh => ?_⟩, m, F.kp, F.bindsN hB⟩
  obtain ⟨_, η, S, ws, rp, rr, fin⟩ := hh
  rw [h] at fin
  exact fin.elim
theorem calleeX_succ (D : DefAt K mg x st) (hB : Bnd x st ps) (hS : FnScope N ps (defScope st)) (e : ∀ ws S, g ws S = if 2 ≤ n then runX N.length b ws S else .bad)
    (h : ∀ (f : Addr) (cdv : Value) (A : Around) (outer : List Env) (s : Shared) (H : Hp) (E : XK), 2 ≤ n → Room n (A.deeper (envOfC x (defScope st) s.heap.objs.size f cdv)) → A.guards = some [] → PSs (bodyE P w K mg base N x (defScope st) f cdv A outer s H E) (defBody st) (tS ⟨K, ct⟩ (fun _ => E) b)) :
    CalleeC (L2.CX P w) P w K mg base ct (n + 1) x ps g := by
  by_cases h2 : 2 ≤ n
  · obtain ⟨f, fd, F, m⟩ := id D
    obtain ⟨oc, od, dV, kV, doc, pm, an, cdv, cv, sl, rfl, lk, hcd, _, _⟩ := F.ex
    exact ⟨f, _, fnX_of lk hcd hS fun A outer s H E r gd => ⟨b, fun ws S _ => by rw [e, if_pos h2], h f cdv A outer s H E h2 r gd⟩, m, F.kp, F.bindsN hB⟩
  · exact calleeX_zero D hB fun ws S => by rw [e, if_neg h2]
end
/-! the clauses, as the generator writes them -/
section
variable {X : Cx} {ct : Nat → Option Addr} {sub : Nat → Nat → Bool}
theorem h_plain {x : Str} {c : Nat} {xs : List Xp} {es : List Expr} {k : Nat} {p1 p2 np q : Pos} {hds : List ExceptHandler} {hs : List Hd} (kt : KTake X.K X.mg ct sub c x) (hx : XArgs X none (Takers ct sub c) es xs) (r : ∃ l, HsOk X ct sub hds hs l) (hg : Gl X x := by rfl) (hdb : (x == ("__debug__" : Str)) = false := by decide)
    (hz : xs.length ≤ 1000 := by decide) (hfl : xs.all Xp.flat = true := by rfl) : ∃ l, HsOk X ct sub (.ExceptHandler (some (.Name x np)) none [.Return (some (.Tuple es k p1)) p2] q :: hds) (⟨c, none, xs⟩ :: hs) l := by
  obtain ⟨cv, m, h⟩ := kt
  obtain ⟨l, r⟩ := r
  exact ⟨_, .plain ⟨hg, hdb, .inl m⟩ h hz hfl hx r⟩
theorem h_named {x y : Str} {i c : Nat} {xs : List Xp} {es : List Expr} {k : Nat} {p1 p2 np q : Pos} {hds : List ExceptHandler} {hs : List Hd} (kt : KTake X.K X.mg ct sub c x) (hN : X.N.Nodup) (hx : XArgs X (some i) (Takers ct sub c) es xs) (r : ∃ l, HsOk X ct sub hds hs l) (hi : X.N[i]? = some y := by rfl) (hy : X.env.kindOf y = some .local := by rfl)
    (hg : Gl X x := by rfl) (hdb : (x == ("__debug__" : Str)) = false := by decide) (hz : xs.length ≤ 1000 := by decide) (hfl : xs.all Xp.flat = true := by rfl) : ∃ l, HsOk X ct sub (.ExceptHandler (some (.Name x np)) (some y) [.Return (some (.Tuple es k p1)) p2] q :: hds) (⟨c, some i, xs⟩ :: hs) l := by
  obtain ⟨cv, m, h⟩ := kt
  obtain ⟨l, r⟩ := r
  exact ⟨_, .named ⟨hg, hdb, .inl m⟩ hN hi hy h hz hfl hx r⟩
theorem h_nil : ∃ l, HsOk X ct sub [] [] l := ⟨[], .nil⟩
theorem try_E {E : EX} {Wout : WX} {body : List Stmt} {h0 : ExceptHandler} {hds : List ExceptHandler} {hs : List Hd} {b : FS} {pos : Pos} {n : Nat} (tk : Takes X Wout) (hE : ∀ σ cls d H, E σ cls d H → Wout cls d σ H)
    (hb : ∀ (W : WX) (pn : List (Addr × Obj)) (xe : Value → Shared → Prop), Takes (X.tr pn xe) W → PassesOwn (model X.prog X.w) X.A X.env xe → PSs (X.tr pn xe) body (tS (gx X ct) (WE W) b))
    (hh : ∃ l, HsOk X ct sub (h0 :: hds) hs l) (hn : X.N.length = n := by rfl) (hst : X.stack = X.env :: X.outer := by rfl) (hf : X.env.frame = some X.env.locals := by rfl) : PS X (.Try body (h0 :: hds) [] [] pos) (tS (gx X ct) E (fTryN n sub b hs)) := by
  obtain ⟨l, hh⟩ := hh
  exact s_try tk hE hn hb hh hst hf
end
end VI
set_option Elab.async false
set_option linter.all false
set_option maxRecDepth 100000
namespace VI
open PySem PySem.Spec PyProof.Rows L2

/-! what the head's run tells of a module's constants and classes -/
/-- a class over ValueError with an __init__ of its own -/
def oexB (K : PySem.W.Frag) (C : Addr) : Bool := (match K.lookup C with
  | some ⟨.type "type", _, .cls cd, sl⟩ => (match cd.mro, sl.toList with
    | .ref C' :: bm, [_, _, _, _, some (.builtin n), _] => C' == C && n == "ValueError.__new__" && cd.hasDict && !cd.hasDel && PySem.HandSPX.refsVE bm
    | _, _ => false)
  | _ => false) && (decide (PySem.W.findIn K (.ref C) "__setattr__" = some (some (.builtin "object.__setattr__"))) && (decide (PySem.W.subIn K (.ref C) (.type "BaseException") = some true) && (decide (PySem.W.typeIn K (.ref C) = some (.type "type")) && PySem.W.keepIn K (.ref C))))
theorem oexB_ok {K : PySem.W.Frag} {C : Addr} (h : oexB K C = true) : OexC K C := by
  obtain ⟨q, h⟩ := He.ba h
  obtain ⟨h2, h⟩ := He.ba h
  obtain ⟨h3, h⟩ := He.ba h
  obtain ⟨h4, h5⟩ := He.ba h
  refine ⟨?_, of_decide_eq_true h2, of_decide_eq_true h3, of_decide_eq_true h4, h5⟩
  split at q
  · rename_i dd cd sl ho
    split at q
    · rename_i C' bm k0 k1 k2 k3 n k5 hm hs
      simp only [Bool.and_eq_true, beq_iff_eq, Bool.not_eq_true'] at q
      obtain ⟨⟨⟨⟨rfl, rfl⟩, hdct⟩, hdel⟩, ht⟩ := q
      obtain ⟨nm, bs, mro, ns, qn, hd, sn, sub, ab, col, del⟩ := cd
      dsimp only at hm hdel hdct
      subst hm hdel hdct
      have hsl : sl = #[k0, k1, k2, k3, some (.builtin "ValueError.__new__"), k5] := by
        obtain ⟨l⟩ := sl
        simp only at hs
        rw [hs]
      subst hsl
      exact ⟨_, _, _, _, _, _, _, _, _, _, _, _, _, _, _, ho, ht⟩
    · cases q
  · cases q
/-- what a module's name stands for -/
def mgAt (K : PySem.W.Frag) (x : Str) : Option Value := match PySem.W.nsIn K mainGlobals x with
  | some (some v) => some v
  | _ => none
mutual
/-- d stands for u, as far as K tells -/
def repB (K : PySem.W.Frag) : PyData → Value → Bool
  | .none, .none => true
  | .bool b, .bool c => b == c
  | .int i, .int j _ => decide (i = j)
  | .str x, .str y _ => decide (x = y)
  | .tuple ds, .ref a => (match K.lookup a with
    | some ⟨.type "tuple", _, .seq its _, _⟩ => decide (its.size ≤ sizeLine) && repsB K ds its.toList
    | _ => false)
  | _, _ => false
def repsB (K : PySem.W.Frag) : List PyData → List Value → Bool
  | [], [] => true
  | d :: ds, u :: us => repB K d u && repsB K ds us
  | _, _ => false
end
mutual
theorem repB_ok {K : PySem.W.Frag} : ∀ (d : PyData) (u : Value), repB K d u = true → ∃ v, RelV v u ∧ ∀ η H, RepD K η H d v
  | .none, u, h => by
    cases u <;> first | exact ⟨.non, rfl, fun _ _ => .none⟩ | (simp [repB] at h)
  | .bool b, u, h => by
    cases u with
    | bool c => exact ⟨.bl b, by rw [repB, beq_iff_eq] at h; rw [h]; rfl, fun _ _ => .bool b⟩
    | _ => simp [repB] at h
  | .int i, u, h => by
    cases u with
    | int j t => exact ⟨.int i, by rw [repB, decide_eq_true_eq] at h; exact ⟨t, by rw [h]⟩, fun _ _ => .int i⟩
    | _ => simp [repB] at h
  | .str x, u, h => by
    cases u with
    | str y t => exact ⟨.str x, by rw [repB, decide_eq_true_eq] at h; exact ⟨t, by rw [h]⟩, fun _ _ => .str x⟩
    | _ => simp [repB] at h
  | .tuple ds, u, h => by
    cases u with
    | ref a =>
      rw [repB] at h
      split at h
      · rename_i dd its n sl ho
        obtain ⟨h1, h2⟩ := He.ba h
        obtain ⟨vs, r, rd⟩ := repsB_ok ds _ h2
        exact ⟨.ref a, rfl, fun η H => .tuple (.inr ⟨_, its, n, ho, rfl, rfl, of_decide_eq_true h1, r⟩) (rd η H)⟩
      · cases h
    | _ => simp [repB] at h
  | .list _, u, h => by cases u <;> simp [repB] at h
theorem repsB_ok {K : PySem.W.Frag} : ∀ (ds : List PyData) (us : List Value), repsB K ds us = true → ∃ vs, Vals vs us ∧ ∀ η H, RepDs K η H ds vs
  | [], [], _ => ⟨[], .nil, fun _ _ => .nil⟩
  | [], _ :: _, h => by simp [repsB] at h
  | _ :: _, [], h => by simp [repsB] at h
  | d :: ds, u :: us, h => by
    rw [repsB] at h
    obtain ⟨h1, h2⟩ := He.ba h
    obtain ⟨v, r, rd⟩ := repB_ok d u h1
    obtain ⟨vs, r2, rd2⟩ := repsB_ok ds us h2
    exact ⟨v :: vs, .cons r r2, fun η H => .cons (rd η H) (rd2 η H)⟩
end
def conB (K : PySem.W.Frag) (x : Str) (d : PyData) : Bool := match PySem.W.nsIn K mainGlobals x with
  | some (some u) => repB K d u
  | _ => false
theorem conB_ok {K : PySem.W.Frag} {h : Heap} {mg : Str → Option Value} {x : Str} {d : PyData} (X : K.In h) (G : h.Ns mainGlobals mg) (c : conB K x d = true) : KCon K mg x d := by
  unfold conB at c
  split at c
  · rename_i u e
    obtain ⟨v, r, rd⟩ := repB_ok d u c
    exact ⟨v, u, PySem.W.mg_of X G e, r, rd⟩
  · cases c
/-- the hook of the library, and one's own look at K -/
def hookV (n : Nat) (fa : List He.Fa) (fn : List He.DefD) (ex : PySem.W.Frag → Bool) : PySem.W.Hook where
  α := He.AlD × Bool
  obs := fun s => (He.obsDG n fa fn s.heap.get?, ex (He.frG s.heap.get? (He.asD s.heap.get? n)))
  val := fun _ => (He.valD fn, true)
  says := fun _ h => ∃ K : PySem.W.Frag, K.In h ∧ He.SaysD fa fn K ∧ ex K = true
  of := fun _ _ e => ⟨_, He.frG_in, congrArg (fun z : He.AlD × Bool => z.1) e, congrArg (fun z : He.AlD × Bool => z.2) e⟩
  keeps := fun _ _ _ ⟨K, hK, c⟩ k => ⟨K, PySem.W.Frag.In.keeps hK k, c⟩
def obsV (n : Nat) (fa : List He.Fa) (fn : List He.DefD) (ex : PySem.W.Frag → Bool) (g : Addr → Option Obj) : He.AlD × Bool := (He.obsDG n fa fn g, ex (He.frG g (He.asD g n)))
theorem obsV_eq {n : Nat} {fa : List He.Fa} {fn : List He.DefD} {ex : PySem.W.Frag → Bool} {g : Addr → Option Obj} {s : Shared} (h : ∀ a, g a = s.heap.get? a) : obsV n fa fn ex g = (hookV n fa fn ex).obs s := by
  have e : g = s.heap.get? := funext h
  rw [e] <;> rfl
end VI
set_option Elab.async false
set_option linter.all false
set_option maxRecDepth 100000
namespace VI
open PySem PySem.Spec PyProof.Rows L2

/-! from the head's facts to what the defs are told -/
theorem all_at {l : List Bool} (h : l.all id = true) (i : Nat) {b : Bool} (e : l[i]? = some b := by rfl) : b = true := List.all_eq_true.mp h b (List.mem_of_getElem? e)
section
variable {K : PySem.W.Frag} {h : Heap} {mg : Str → Option Value} {fas : List He.Fa} {fns : List He.DefD} {P : Program} {w : World} {base : Heap}
theorem defAt_of {x : Str} {st : Stmt} (X : K.In h) (G : h.Ns mainGlobals mg) (c : (He.Fa.glo x).ok K = true) (F : ∃ fd, FunD K x x (defArgs st) (defBody st) (defScope st) [] [] (He.ga K x) fd) : DefAt K mg x st := by
  obtain ⟨fd, F⟩ := F
  exact ⟨_, fd, F, He.glo_ok X G c⟩
theorem ownX_one {x qual f1 p1 : Str} {pr : Arguments} {body : List Stmt} {sc : Scope} (X : K.In h) (G : h.Ns mainGlobals mg) (c : (He.Fa.glo x).ok K = true) (T : oexB K (He.ga K x) = true) (m : (He.Fa.meth x "__init__").ok K = true) (ty : decide (PySem.W.typeIn K (.ref (He.ma K (He.ga K x) "__init__")) = some (.type "function")) = true)
    (n1 : (He.Fa.noat x f1).ok K = true) (F : ∃ fd, FunD K "__init__" qual pr body sc [] [] (He.ma K (He.ga K x) "__init__") fd) (hS : FnScope ["self", p1] ["self", p1] sc)
    (hB : ∀ (kV doc pm : Value) (an : Option Addr) (cdv ct : Value) (us : List Value), us.length = 2 → bindArgs (PySem.W.fnOf "__init__" qual pr body sc .none kV doc pm an cdv ct) ⟨us, []⟩ = pure ((["self", p1] : List Str).zip us))
    (hb : ∀ (cdv : Value) (A : Around) (outer : List Env) (s : Shared) (H : Hp) (E : XK), PSs (cxOf CX0 P w K mg base ["self", p1] qual sc (He.ma K (He.ga K x) "__init__") cdv A outer s H E) body (tOst K f1 (tVar 0) (tVar 1))) : OwnX P w K mg base 1 x (He.ga K x) [f1] := by
  obtain ⟨fd, F⟩ := F
  exact ⟨He.glo_ok X G c, oexB_ok T, _, fd, _, (He.meth_ok m).at_, of_decide_eq_true ty, init_one (k := 0) F hS (oexB_ok T) (He.noat_ok n1) hb, F.bindsN hB⟩
theorem ownX_two {x qual f1 f2 p1 p2 : Str} {pr : Arguments} {body : List Stmt} {sc : Scope} (X : K.In h) (G : h.Ns mainGlobals mg) (c : (He.Fa.glo x).ok K = true) (T : oexB K (He.ga K x) = true) (m : (He.Fa.meth x "__init__").ok K = true) (ty : decide (PySem.W.typeIn K (.ref (He.ma K (He.ga K x) "__init__")) = some (.type "function")) = true)
    (n1 : (He.Fa.noat x f1).ok K = true) (n2 : (He.Fa.noat x f2).ok K = true) (F : ∃ fd, FunD K "__init__" qual pr body sc [] [] (He.ma K (He.ga K x) "__init__") fd) (hS : FnScope ["self", p1, p2] ["self", p1, p2] sc)
    (hB : ∀ (kV doc pm : Value) (an : Option Addr) (cdv ct : Value) (us : List Value), us.length = 3 → bindArgs (PySem.W.fnOf "__init__" qual pr body sc .none kV doc pm an cdv ct) ⟨us, []⟩ = pure ((["self", p1, p2] : List Str).zip us))
    (hb : ∀ (cdv : Value) (A : Around) (outer : List Env) (s : Shared) (H : Hp) (E : XK), PSs (cxOf CX0 P w K mg base ["self", p1, p2] qual sc (He.ma K (He.ga K x) "__init__") cdv A outer s H E) body (tSeq (tOst K f1 (tVar 0) (tVar 1)) (tOst K f2 (tVar 0) (tVar 2)))) : OwnX P w K mg base 1 x (He.ga K x) [f1, f2] := by
  obtain ⟨fd, F⟩ := F
  exact ⟨He.glo_ok X G c, oexB_ok T, _, fd, _, (He.meth_ok m).at_, of_decide_eq_true ty, init_two (k := 0) F hS (oexB_ok T) (He.noat_ok n1) (He.noat_ok n2) hb, F.bindsN hB⟩
end
end VI
set_option Elab.async false
set_option linter.all false
set_option maxRecDepth 100000
namespace VI
open PySem PySem.Spec PyProof.Rows L2

/-! the end, the classes' numbers told by K -/
section
variable {k : Nat} {x : Str} {g : List W → Store → R W}
theorem walk_K {l : PySem.W.OpenLaw} {n : Nat} {q : Program} {loose : List Str} {XP : (Str → Option Value) → Heap → Prop} {YP : World → Heap → Prop} {d : DefRec}
    (hn : l.most = some n) (hn2 : n ≤ sizeLine) (hdf : d.params.defaults = []) (hr : Room k callerA)
    (F : ∀ (w : World) (mg : Str → Option Value) (fa : Addr) (h : Heap), YP w h → h.Ns mainGlobals mg → mg d.name = some (.ref fa) →
      ∃ (K : PySem.W.Frag) (ct : Nat → Option Addr) (fd : FuncData), K.In h ∧ (∀ (s : Shared) (u : Value), BindsTo s fd ⟨[u], []⟩ [(x, u)]) ∧
        ∀ base : Heap, K.In base → base.Ns mainGlobals mg → FnG l.prog w K mg base CX0 k fa fd [x] (spG ⟨K, ct⟩ 1 g))
    (good : ∀ ns : List Int, ns.length ≤ n → (∀ z ∈ ns, Builtin.Int.intBits z ≤ 1048576) → ∃ S', g [scriptW ns] [] = .ok (.d (.bool true)) S') :
    PySem.W.WalkO q loose XP YP l.row.toRowW d [] (fun f vs => PySem.call f vs) :=
  Att.attach_callB hn hdf fun w s₀ s1 mg mb fa o pm cd doc a vs ns G Y ho hd hcd hmg hobj hints hlen hbits hg => by
    obtain ⟨K, ct, fd, KX, hb, hF⟩ := F w mg fa _ Y G.T.g hmg
    exact ask KX G.T.g G.T.b G.T.builtins G.T.nolimit hg hobj hints (Nat.le_trans hlen hn2) hr hF hb (good ns hlen hbits)
/-- the def that is the law, by its body -/
theorem law_of {P : Program} {w : World} {K : PySem.W.Frag} {mg : Str → Option Value} {ct : Nat → Option Addr} {nm : Str} {st : Stmt} {fa : Addr} {N : List Str} {n : Nat} {b : FS} (D : DefAt K mg nm st) (hB : Bnd nm st [x]) (hmg : mg nm = some (.ref fa)) (hS : FnScope N [x] (defScope st)) (e : ∀ ws S, g ws S = runB N.length b ws S)
    (h : ∀ (base : Heap) (f : Addr) (cdv : Value) (A : Around) (outer : List Env) (s : Shared) (H : Hp) (E : XK), Room n (A.deeper (envOfC nm (defScope st) s.heap.objs.size f cdv)) → A.guards = some [] → PSs (bodyX P w K mg base N nm (defScope st) f cdv A outer s H E) (defBody st) (tS ⟨K, ct⟩ NX b)) :
    ∃ fd : FuncData, (∀ (s : Shared) (u : Value), BindsTo s fd ⟨[u], []⟩ [(x, u)]) ∧ ∀ base : Heap, FnG P w K mg base CX0 (n + 1) fa fd [x] (spG ⟨K, ct⟩ 1 g) := by
  obtain ⟨f, fd, F, m⟩ := D
  obtain rfl : f = fa := by
    have e := m.symm.trans hmg
    cases e
    rfl
  have b := FunD.bindsA (ps := [x]) F hB
  exact ⟨fd, fun s u => b s [u] rfl, fun base => FunD.okG F hS fun cdv A outer s H E r gd => ⟨_, fun ws S _ => e ws S, h base f cdv A outer s H E r gd⟩⟩
end
end VI
set_option Elab.async false
set_option linter.all false
set_option maxRecDepth 100000
namespace VI
open PySem PySem.Spec PyProof.Rows L2

/-! int(x), x a text too -/
def gIntA (ws : List W) (S : Store) : O := match ws with
  | [.d (.str a)] => match PySem.intText? a with
    | some n => if a.length ≤ 640 then some (.d (.int n), S) else none
    | none => none
  | ws => gInt ws S
theorem c_intA {X : Cx} {ct : Nat → Option Addr} : CallR X (.type "int") (SimL X ct gIntA) := CallR.fit (CallR.or (c_int (X := X) (ct := ct)) call_int_str) fun xs H Q ⟨η, S, ws, rp, rr, q⟩ => by
  unfold gIntA at q
  split at q
  · rename_i a
    obtain ⟨v, rfl, r⟩ := repWs1 rr
    cases e : PySem.intText? a with
    | none => rw [e] at q; exact q.elim
    | some n =>
      rw [e] at q
      have q2 : FinO (gx X ct) η H (if a.length ≤ 640 then some (.d (.int n), S) else none) Q := q
      by_cases hl : a.length ≤ 640
      · rw [if_pos hl] at q2
        cases r with | d r => cases r; exact .inr ⟨a, n, rfl, e, hl, same_val rp (.d (.int _)) q2⟩
      · rw [if_neg hl] at q2
        exact q2.elim
  · exact .inl ⟨η, S, _, rp, rr, q⟩
end VI
set_option Elab.async false
set_option linter.all false
set_option maxRecDepth 100000
namespace VI
open PySem PySem.Spec PyProof.Rows L2

theorem exoT_ok {P : Program} {w : World} {H : Hp} {h : Heap} {e C t1 : Addr} {d : Option Addr} (hg : h.get? e = some ⟨.ref C, d, .fields #[.ref t1, .none, .none, .none, .bool false, .none], #[]⟩) : ObjOk P w H h e (exoT e C d t1) :=
  ⟨hg, ⟨_, hg⟩, fun h1 h2 a b => b _ a⟩
theorem exoT_at {P : Program} {w : World} {H : Hp} {h : Heap} {e C t1 : Addr} {d : Option Addr} (hk : HOk P w H h) (he : H e = some (exoT e C d t1)) : h.get? e = some ⟨.ref C, d, .fields #[.ref t1, .none, .none, .none, .bool false, .none], #[]⟩ := (hk e _ he).1
theorem exoT_own {e C t1 x : Addr} {d : Option Addr} : exoT e C d t1 ≠ .own x := fun h => by unfold exoT at h; cases h
theorem exoT_tup {e C t1 : Addr} {d : Option Addr} {xs : List V} : exoT e C d t1 ≠ .tup xs := fun h => by unfold exoT at h; cases h
theorem exoT_frz {e C t1 : Addr} {d : Option Addr} {o : Obj} {v : HO} : exoT e C d t1 ≠ .frz o v := fun h => by unfold exoT at h; cases h
theorem exoT_tbl {e C t1 : Addr} {d : Option Addr} {ps : Array Value} : exoT e C d t1 ≠ .tbl ps := fun h => by unfold exoT at h; cases h
theorem at_ne' {H : Hp} {a b : Addr} {o u : HO} (e : H a = some o) (q : H b = some u) (h : o ≠ u) : b ≠ a := fun z => by
  subst z
  rw [e] at q
  cases q
  exact h rfl
theorem ost_newT {X : Cx} {pins : List (Addr × Obj)} {σ : L2.St} {H : Hp} {s : Shared} {a C t1 : Addr} {f : Str} {y : V} {u : Value} {Q : Unit → Shared → Prop} {E : Value → Shared → Prop} {A : Around} (T : OexC X.K C) (I : L2.Inv X pins σ H s) (e : H a = some (exoT a C none t1)) (hno : PySem.W.findIn X.K (.ref C) f = some none) (ry : L2.RelV y u)
    (h : ∀ (dx : Addr) (s' : Shared), H dx = none → dx ≠ a → L2.Inv X pins σ (upd (upd H dx (exd dx [(f, y)])) a (exoT a C (some dx) t1)) s' → Q () s') : wpAny (model X.prog X.w) A (setAttr (.ref a) f u) Q E s := by
  obtain ⟨nm, q, N, bs, bm, sn, sub, ab, col, dd, k0, k1, k2, k3, k5, hC, hbm⟩ := T.cls
  have ho := exoT_at I.hok e
  obtain ⟨hp, g, d, t, os⟩ := s
  obtain ⟨cd, hcl, c1, c2⟩ : ∃ cd, PySem.W.clsIn X.K C = some cd ∧ PySem.HandSPX.refsVE cd.mro = true ∧ cd.hasDict = true := ⟨_, by unfold PySem.W.clsIn; rw [hC], hbm, rfl⟩
  refine PySem.W.set_plain (od := none) I.kIn ⟨ho, rfl, rfl, trivial⟩ T.sa (PySem.HandSPX.exc_osa I.kIn ho hcl c1 c2 hno fun h' tk' dx k dn dne hx hn => ?_)
  have hnd : H dx = none := I.hok.fresh dn
  have nd : ∀ {b : Addr} {o : Obj}, hp.get? b = some o → b ≠ dx := fun q => Nat.ne_of_lt (Nat.lt_of_lt_of_le (Heap.lt_size q) dn)
  have na : ∀ {b : Addr}, H b = none → b ≠ a := fun n z => by rw [z, e] at n; cases n
  have Un1 : Un X.fs [] H (upd (upd H dx (exd dx [(f, y)])) a (exoT a C (some dx) t1)) hp h' := by
    refine { keep := fun b o q n x x_1 => k b o (na n) q, slot := fun b o q n x x_1 => ⟨o.slots, k b o (na n) q⟩, free := fun b o q n x => ?_, there := fun b o q x => ?_, tups := fun b xs q => ?_, frzs := fun b o v q => ?_, tbls := fun b ps q => ⟨#[], ?_⟩ }
    · rw [upd_ne (na n), upd_ne (nd q)]; exact n
    · by_cases hb : b = a
      · subst hb; exact ⟨_, hx⟩
      · exact ⟨o, k b o hb q⟩
    · rw [upd_ne (at_ne' e q exoT_tup), upd_ne (ne_of_none q hnd)]; exact q
    · rw [upd_ne (at_ne' e q exoT_frz), upd_ne (ne_of_none q hnd)]; exact q
    · rw [upd_ne (at_ne' e q exoT_tbl), upd_ne (ne_of_none q hnd), Array.append_empty]; exact q
  refine h dx ⟨h', g, d, tk', os⟩ hnd dne (L2.Inv.un I Un1 fun b o q => ?_)
  by_cases hb : b = a
  · subst hb
    rw [upd_same] at q
    cases q
    exact exoT_ok hx
  · rw [upd_ne hb] at q
    by_cases hd : b = dx
    · subst hd
      rw [upd_same] at q
      cases q
      exact exd_ok hn (relO_put ry fun g => trivial)
    · rw [upd_ne hd] at q
      refine ObjOk.stay (I.hok b o q) (fun c v hc z => k c v ?_ z) (fun c hc => ?_) fun c xs hc => ?_
      · rcases hc with hc | hc
        · rw [hc]; exact hb
        · exact at_ne' e hc exoT_own
      · rw [upd_ne (at_ne' e hc exoT_own), upd_ne (ne_of_none hc hnd)]; exact hc
      · rw [upd_ne (at_ne' e hc exoT_tup), upd_ne (ne_of_none hc hnd)]; exact hc
def tOstT (K : PySem.W.Frag) (f : Str) (to te : TE) : TS := fun D σ H => te σ H fun y H1 => to σ H1 fun x H2 => ∃ (a C t1 : Addr), x = .ref a ∧ OexC K C ∧ PySem.W.findIn K (.ref C) f = some none ∧ H2 a = some (exoT a C none t1) ∧ ∀ dx, H2 dx = none → dx ≠ a → D.nx σ (upd (upd H2 dx (exd dx [(f, y)])) a (exoT a C (some dx) t1))
theorem ps_ostT {X : Cx} {o e : Expr} {to te : TE} {f : Str} {p' pos : Pos} (ho : PE X o to) (he : PE X e te) (hs : swapsWith e (some (o.Attribute f p')) pos.line X.env = pure false := by rfl) : PS X (.Assign [o.Attribute f p'] e pos) (tOstT X.K f to te) := by
  refine ⟨fun pins s σ H D I h => ?_⟩
  refine plainObj_wpAny_Assign_Attribute (thn (he.run pins s σ H _ I h) fun v s1 x => ?_) hs
  obtain ⟨y, H1, I1, r1, q1⟩ := x
  refine thn (ho.run pins s1 σ H1 _ I1 q1) fun u s2 x => ?_
  obtain ⟨x, H2, I2, r2, a, C, t1, rfl, T, hno, ea, q⟩ := x
  cases (show u = Value.ref a from r2)
  exact ost_newT T I2 ea hno r1 fun dx s' n ne J => ⟨σ, _, J, q dx n ne⟩
/-- __init__ of a class with one field -/
def spInitT (C : Addr) (f : Str) : Sp := fun vs H Q _ => ∃ (a t1 : Addr) (y : V), vs = [.ref a, y] ∧ H a = some (exoT a C none t1) ∧ ∀ dx, H dx = none → dx ≠ a → Q .non (upd (upd H dx (exd dx [(f, y)])) a (exoT a C (some dx) t1))
section
variable {P : Program} {w : World} {K : PySem.W.Frag} {mg : Str → Option Value} {base : Heap} {k : Nat} {C fI : Addr} {fd : FuncData} {qual : Str} {pr : Arguments} {body : List Stmt} {sc : Scope} {f1 p1 : Str}
theorem init_oneT (F : FunD K "__init__" qual pr body sc [] [] fI fd) (hS : FnScope ["self", p1] ["self", p1] sc) (T : OexC K C) (no1 : PySem.W.findIn K (.ref C) f1 = some none)
    (hb : ∀ (cdv : Value) (A : Around) (outer : List Env) (s : Shared) (H : Hp) (E : XK), PSs (cxOf CX0 P w K mg base ["self", p1] qual sc fI cdv A outer s H E) body (tOstT K f1 (tVar 0) (tVar 1))) :
    FnOk P w K mg base CX0 (k + 1) fI fd ["self", p1] (spInitT C f1) := by
  refine FunD.ok F hS (fun vs H Q E h => ?_) fun cdv A outer s H vs Q E hr h => ?_
  · obtain ⟨a, t1, y, rfl, _⟩ := h
    rfl
  · obtain ⟨a, t1, y, rfl, ha, q⟩ := h
    refine ⟨_, hb cdv A outer s H E, ?_⟩
    exact ⟨y, rfl, .ref a, rfl, a, C, t1, rfl, T, no1, ha, fun dx hd ne => q dx hd ne⟩
end
structure OwnX1 (P : Program) (w : World) (K : PySem.W.Frag) (mg : Str → Option Value) (base : Heap) (k : Nat) (x : Str) (C : Addr) (f : Str) : Prop where
  at_ : mg x = some (.ref C)
  T : OexC K C
  init : ∃ (fI : Addr) (fd : FuncData) (ps : List Str), PySem.W.findIn K (.ref C) "__init__" = some (some (.ref fI)) ∧ PySem.W.typeIn K (.ref fI) = some (.type "function") ∧ FnOk P w K mg base CX0 k fI fd ps (spInitT C f) ∧ Binds K fd ps []
theorem pe_own1 {X : Cx} {k : Nat} {x f : Str} {C : Addr} {e : Expr} {ta : TA} {p pos : Pos} (O : OwnX1 X.prog X.w X.K X.mg X.base k x C f) (hr : Room (k + 1) X.A) (ha : PA X [e] ta) (hg : Gl X x) (hdb : (x == ("__debug__" : Str)) = false := by decide)
    (he : starEach [e] X.env = (false, eval e X.env) :: starEach [] X.env := by rfl) (hpl : (backTo pos (starEach [] X.env)).any (·.1) = false := by rfl) :
    PE X (.Call (.Name x p) [e] [] pos) (fun σ H Q => ta σ H fun vs H1 => ∃ y, vs = [y] ∧ ∀ a t1 dx, H1 a = none → H1 t1 = none → H1 dx = none → a ≠ t1 → dx ≠ a → dx ≠ t1 → Q (.ref a) (upd (upd (upd (upd H1 t1 (.tup [y])) a (exoT a C none t1)) dx (exd dx [(f, y)])) a (exoT a C (some dx) t1))) := by
  obtain ⟨m, T, fI, fd, ps, iC, tI, F1, hb⟩ := O
  refine ⟨fun pins s σ H Q I h => ?_⟩
  obtain ⟨nm, q, N, bs, bm, sn, sub, ab, col, dd, k0, k1, k2, k3, k5, hC, hbm⟩ := T.cls
  refine wpAny_Call_Name_kw (ld_glob I hg m ?_ hdb)
  refine PySem.W.callWith_K (h₀ := X.base) I.ok.mod.kin T.kC (thn (ha.run pos pins s σ H _ I h) fun us s1 ⟨vs, H1, I1, rel, y, ey, h1⟩ => ⟨I1.kIn, ?_⟩) he hpl
  subst ey
  obtain ⟨u, rfl, ru⟩ := vals1 rel
  show wpAny _ _ (call (.ref C) [u]) _ _ _
  obtain ⟨hp, g, dr, tk, os⟩ := s1
  have n0 : H1 hp.objs.size = none := I1.hok.fresh (Nat.le_refl _)
  have hsz : hp.objs.size ≤ hp.objs.size + 1 := Nat.le_succ _
  have n1 : H1 (hp.objs.size + 1) = none := I1.hok.fresh hsz
  have ne : hp.objs.size + 1 ≠ hp.objs.size := by omega
  have g0 : ((hp.push (PySem.W.kdv_tup [u]))).get? hp.objs.size = some (PySem.W.kdv_tup [u]) := Heap.get?_push_size _ rfl
  have I2 : Inv X pins σ (upd H1 hp.objs.size (.tup [y])) ⟨hp.push (PySem.W.kdv_tup [u]), g, dr, tk, os⟩ :=
    I1.laid (t' := tk) (a := hp.objs.size) (o := .tup [y]) (h' := hp.push (PySem.W.kdv_tup [u])) (fun b o e => Heap.get?_push_of_some _ e) (Nat.le_refl _) ⟨by rw [sizeLine_eq, List.length_singleton]; decide, [u], .cons ru .nil, ⟨_, g0, rfl, 0, by simp⟩⟩
  have gs : (hp.push (PySem.W.kdv_tup [u])).objs.size = hp.objs.size + 1 := by
    show (hp.objs.push _).size = _
    exact Array.size_push ..
  have hget : ((hp.push (PySem.W.kdv_tup [u])).push (PySem.HandSPX.excO C hp.objs.size)).get? (hp.objs.size + 1) = some (PySem.HandSPX.excO C hp.objs.size) := by rw [← gs]; exact Heap.get?_push_size _ rfl
  have I3 : Inv X pins σ (upd (upd H1 hp.objs.size (.tup [y])) (hp.objs.size + 1) (exoT (hp.objs.size + 1) C none hp.objs.size)) ⟨(hp.push (PySem.W.kdv_tup [u])).push (PySem.HandSPX.excO C hp.objs.size), g, dr, tk, os⟩ :=
    I2.laid (t' := tk) (a := hp.objs.size + 1) (o := exoT (hp.objs.size + 1) C none hp.objs.size) (h' := (hp.push (PySem.W.kdv_tup [u])).push (PySem.HandSPX.excO C hp.objs.size)) (fun b o e => Heap.get?_push_of_some _ e) (by show (hp.push _).objs.size ≤ _; rw [gs]; omega) (exoT_ok hget)
  have r2 : Vals [V.ref (hp.objs.size + 1), y] [Value.ref (hp.objs.size + 1), u] := .cons rfl (.cons ru .nil)
  let Q2 : VK := fun v H' => v = .non ∧ Q (.ref (hp.objs.size + 1)) H'
  have hq : spInitT C f [V.ref (hp.objs.size + 1), y] (upd (upd H1 hp.objs.size (.tup [y])) (hp.objs.size + 1) (exoT (hp.objs.size + 1) C none hp.objs.size)) Q2 (fun _ _ _ => False) := by
    refine ⟨_, _, _, rfl, upd_same, fun dx hd nd => ⟨rfl, ?_⟩⟩
    rw [upd_ne nd] at hd
    have nt : dx ≠ hp.objs.size := fun z => by subst z; rw [upd_same] at hd; cases hd
    rw [upd_ne nt] at hd
    exact h1 _ _ dx n1 n0 hd ne nd nt
  have hl : ([Value.ref (hp.objs.size + 1)] ++ [u]).length = ps.length := by
    have e := F1.len _ _ _ _ hq
    simpa using e
  have bnd := hb _ [Value.ref (hp.objs.size + 1), u] I3.kIn hl
  rw [List.append_nil] at bnd
  refine wpAny_call (PySem.HandSPX.call_own F.excBase_ValueError (fun Y => PySem.HandSPX.refsVE_contains Y bm hbm) (I1.kIn _ _ hC) (PySem.W.looks_findIn I1.kIn iC) (fun self => PySem.W.bind_fn I1.kIn self tI) (by rw [sizeLine_eq, List.length_singleton]; decide)
    (codeAny_mono (F1.run _ X.stack _ _ ⟨[Value.ref (hp.objs.size + 1), u], []⟩ [Value.ref (hp.objs.size + 1), u] _ _ (fun _ _ _ => False) (hr.make C [u] []) (I3.env0.make C [u] []) bnd r2 hq) fun r s' hq' => ?_))
  cases r with
  | error er => exact pass0 pins σ _ _ er s' I3 hq'
  | ok fl =>
    cases fl with
    | ret u2 =>
      obtain ⟨v, H2, I4, rv, ev, q2⟩ := I3.after hq'
      subst ev
      exact ⟨rv, .ref (hp.objs.size + 1), H2, I4, rfl, q2⟩
    | next => exact False.elim hq'
    | brk => exact False.elim hq'
    | cont => exact False.elim hq'
end VI
set_option Elab.async false
set_option linter.all false
set_option maxRecDepth 100000
namespace VI
open PySem PySem.Spec PyProof.Rows L2

/-! repr of an own exception with one argument, an int -/
def excWith (C : Addr) (d : Option Addr) (t1 : Addr) : Obj := ⟨.ref C, d, .fields #[.ref t1, .none, .none, .none, .bool false, .none], #[]⟩
section
variable {prog : Program} {w : World} {A : Around} {E : Value → Shared → Prop} {s : Shared} {K : PySem.W.Frag} {e C t1 : Addr} {d : Option Addr} {nm : Str} {i : Int} {it : Tok}
theorem wp_bexc_check {M : Model} {Q : Unit → Shared → Prop} (kin : K.In s.heap) (O : OwnE K C nm) (he : s.heap.get? e = some (excWith C d t1)) (h : Q () s) : wpAny M A (checkBuiltinCall "BaseException.__repr__" ⟨[.ref e], []⟩) Q E s := by
  have hk : builtinKind "BaseException.__repr__" = some .slot := by kernel_rfl
  have hs : splitId "BaseException.__repr__" = some ("BaseException", "__repr__") := by kernel_rfl
  have ha := F.args_bexc_repr (.ref e)
  unfold argsOk at ha
  unfold checkBuiltinCall
  simp only [hk, hs]
  refine wpAny_bind ?_
  unfold isInstance
  refine wpAny_bind (wpAny_typeOf_ref he ?_)
  refine PySem.W.looks_subIn kin O.ot.exc.hs _ _ _ _ (fun _ _ z => z) ?_
  refine wpAny_ite_false (by rfl) ?_
  generalize Manifest.signature? "BaseException.__repr__" = sg at ha ⊢
  cases sg with
  | none => exact wpAny_pure h
  | some sig => exact wpAny_of_eq ha h
theorem wp_typeName {M : Model} {Q : String → Shared → Prop} {cd : ClassData} (kin : K.In s.heap) (hc : PySem.W.clsIn K C = some cd) (he : s.heap.get? e = some (excWith C d t1)) (h : Q cd.name.toString s) : wpAny M A (typeNameOfWhole (.ref e)) Q E s := by
  unfold typeNameOfWhole shownTypeOf
  refine wpAny_bind (wpAny_bind (wpAny_typeOf_ref he ?_))
  refine wpAny_ite_false (by rfl) (wpAny_pure ?_)
  unfold typeNameWhole
  exact wpAny_bind (PySem.W.looks_clsIn kin hc _ _ _ _ (fun _ _ z => z) (wpAny_pure h))
theorem wp_pyRepr_int {Q : Str → Shared → Prop} (hi : i.natAbs.log2 < 1920) (h : Q (Str.ofString (toString i)) ⟨s.heap, s.gens, s.drawn, s.toks + 1, s.os⟩) : wpAny (model prog w) A (pyRepr (.int i it)) Q E s :=
  wpAny_bind (wpAny_pyReprObj_gives (typeIs_int s i it) F.slot_int_repr F.entry_int_repr (F.args_int_repr_1 _) (gives_int_repr i it hi) (wpAny_pure h) rfl (int_text_fits hi))
/-- its text -/
def excText (nm : Str) (i : Int) : Str := nm ++ Str.ofString "(" ++ Str.ofString (toString i) ++ Str.ofString ")"
theorem wp_bexcRepr {Q : Value → Shared → Prop} {ot : Obj} {k : Nat} (kin : K.In s.heap) (O : OwnE K C nm) (he : s.heap.get? e = some (excWith C d t1)) (ht : s.heap.get? t1 = some ot) (hd : ot.data = .seq #[.int i it] k) (hi : i.natAbs.log2 < 1920) (hl : (excText nm i).length ≤ sizeLine) (h : ∀ u tk, Q (.str (excText nm i) u) ⟨s.heap, s.gens, s.drawn, tk, s.os⟩) :
    wpAny (model prog w) A (call (.builtin "BaseException.__repr__") [.ref e]) Q E s := by
  obtain ⟨cd, hc, rfl⟩ := O.name
  have hn := O.short
  refine wpAny_call (codeAny_call_builtin (by kernel_rfl) F.entry_bexc_repr (wp_bexc_check kin O he ?_))
  show wpAny _ _ (Builtin.bexcReprAt 0 ⟨[.ref e], []⟩) _ _ _
  unfold Builtin.bexcReprAt slotArgs
  refine wpAny_bind (wpAny_ite_false (by rfl) (wpAny_ite_false (by rfl) (wpAny_pure ?_)))
  refine wpAny_bind (wp_typeName kin hc he ?_)
  refine wpAny_bind ?_
  unfold Builtin.BaseException.bexcArgs
  refine wpAny_bind (PySem.W.looks_field he 0 rfl _ _ _ _ (fun _ _ z => z) ?_)
  refine wpAny_bind (wpAny_seqItems ht hd (wpAny_pure ?_))
  refine wpAny_bind (wpAny_rule ?_)
  rw [pyReprUnder_leaf (by have := sizeLine_eq; omega) (fun a z => by cases z)]
  refine wpAny_bind (wp_pyRepr_int hi ?_)
  unfold retStr
  refine wpAny_bind (wpAny_mkStr' ?_ hl)
  exact wpAny_pure (h _ _)
theorem wp_special {M : Model} {name : Str} {r : Option Value} {Q : Option Value → Shared → Prop} (kin : K.In s.heap) (hf : PySem.W.findIn K (.ref C) name = some r) (he : s.heap.get? e = some (excWith C d t1)) (h : Q r s) : wpAny M A (specialOf (.ref e) name) Q E s := by
  unfold specialOf
  exact wpAny_bind (wpAny_typeOf_ref he (PySem.W.looks_findIn kin hf _ _ _ _ (fun _ _ z => z) h))
theorem wp_repr_own {Q : Value → Shared → Prop} {ot : Obj} {k : Nat} (kin : K.In s.heap) (O : OwnE K C nm) (he : s.heap.get? e = some (excWith C d t1)) (ht : s.heap.get? t1 = some ot) (hd : ot.data = .seq #[.int i it] k) (hi : i.natAbs.log2 < 1920) (hl : (excText nm i).length ≤ sizeLine) (hu : A.units + 1 < cLine) (h : ∀ u tk, Q (.str (excText nm i) u) ⟨s.heap, s.gens, s.drawn, tk, s.os⟩) :
    wpAny (model prog w) A (call (.builtin "repr") [.ref e]) Q E s := by
  refine Calls.call_function_entry F.kind_repr F.plain_repr F.entry_repr (F.args_repr1 (.ref e)) ?_
  unfold Builtin.repr
  refine wpAny_bind (wpAny_pure (wpAny_bind (wpAny_cRoomFor hu (wpAny_bind (wp_special kin O.rep he ?_)))))
  refine wpAny_bind ?_
  unfold callSpecialIfBound?
  refine wpAny_holding (wpAny_bind ?_)
  unfold bindSpecialIfBound?
  refine wpAny_bind (wp_special kin O.rep he ?_)
  have hb : bindSpecial (.builtin "BaseException.__repr__") (.ref e) = pure (.builtin "BaseException.__repr__", [.ref e]) := by kernel_rfl
  simp only [hb]
  refine wpAny_bind (wpAny_askSetting ?_)
  have fin : ∀ Q2 : Value → Shared → Prop, (∀ u tk, Q2 (.str (excText nm i) u) ⟨s.heap, s.gens, s.drawn, tk, s.os⟩) → wpAny (model prog w) A.in1 (call (.builtin "BaseException.__repr__") [.ref e]) Q2 E s := fun Q2 q => wp_bexcRepr kin O he ht hd hi hl q
  have en : ∀ (x : Value) (u : Tok) (tk : Nat), x = .str (excText nm i) u → wpAny (model prog w) A.in1 (do let b ← isInstance x (.type "str"); if b = true then ret x else do { rule "repr.not-str"; let t ← typeNameOf x; raiseErrorMade "TypeError" (toString "__repr__ returned non-string (type " ++ toString t ++ toString ")") }) (fun fin s' => ∃ v, fin = Fin.done (Flow.ret v) ∧ Q v s') E ⟨s.heap, s.gens, s.drawn, tk, s.os⟩ := fun x u tk ex => by
    subst ex
    exact wpAny_bind (wpAny_isInstance rfl isSubtype_str_str (wpAny_pure ⟨_, rfl, h _ _⟩))
  refine wpAny_ite ?_
  split
  · refine wpAny_bind (wpAny_pure (wpAny_pure ?_))
    exact wpAny_bind (fin _ fun u tk => wpAny_pure (en _ u tk rfl))
  · refine wpAny_tryCatch (wpAny_bind (wpAny_pure (wpAny_pure ?_)))
    exact wpAny_bind (fin _ fun u tk => wpAny_pure (en _ u tk rfl))
end
end VI
set_option Elab.async false
set_option linter.all false
set_option maxRecDepth 100000
namespace VI
open PySem PySem.Spec PyProof.Rows L2

/-! dicts that are only handed on -/
section
variable {X : Cx} {ct : Nat → Option Addr} {E : EX}
theorem i_dct0 {pos : Pos} : PE X (.Dict [] [] pos) (tF (gx X ct) E (fC (.dict []))) := PEw pe_dnewK fun σ H Q ⟨η, ρ, S, rp, er, h⟩ p hp =>
  h η _ _ (fu_new hp) (rp.new hp) (.d (.dct upd_same (rp.notin hp)))
theorem i_dct1 {i j : Int} {k1 k2 : Nat} {pos p1 p2 : Pos} : PE X (.Dict [some (.Constant (.int i) k1 p1)] [.Constant (.int j) k2 p2] pos) (tF (gx X ct) E (fC (.dict []))) :=
  PEw (pe_disp (pps_cons pe_int pe_int pps_nil) rfl rfl (by simp) (by simp)) fun σ H Q ⟨η, ρ, S, rp, er, h⟩ p hp => by
    refine ⟨upd_same, [(.inl i, .int j)], rfl, by simp, ?_⟩
    rw [upd_upd]
    exact h η _ _ (fu_new hp) (rp.new hp) (.d (.dct upd_same (rp.notin hp)))

/-! an own exception made, and handed on -/
def spNo (C : Addr) : Sp := fun vs H Q _ => ∃ a, vs = [.ref a] ∧ H a = some (exo a C none) ∧ Q .non H
structure OwnN (P : Program) (w : World) (K : PySem.W.Frag) (mg : Str → Option Value) (base : Heap) (k : Nat) (x : Str) (C : Addr) : Prop where
  at_ : mg x = some (.ref C)
  T : OexC K C
  init : ∃ (fI : Addr) (fd : FuncData) (ps : List Str), PySem.W.findIn K (.ref C) "__init__" = some (some (.ref fI)) ∧ PySem.W.typeIn K (.ref fI) = some (.type "function") ∧ FnOk P w K mg base CX0 k fI fd ps (spNo C) ∧ Binds K fd ps []
  ot : OwnT K C
def KMake (P : Program) (w : World) (K : PySem.W.Frag) (mg : Str → Option Value) (base : Heap) (x : Str) : Prop := ∃ C, OwnN P w K mg base 1 x C
theorem pe_own0 {k : Nat} {x : Str} {C : Addr} {p pos : Pos} (O : OwnN X.prog X.w X.K X.mg X.base k x C) (hr : Room (k + 1) X.A) (hg : Gl X x) (hdb : (x == ("__debug__" : Str)) = false := by decide) :
    PE X (.Call (.Name x p) [] [] pos) (fun σ H Q => ∀ a, H a = none → Q (.ref a) (upd H a (exo a C none))) := by
  obtain ⟨m, T, ⟨fI, fd, ps, iC, tI, F1, hb⟩, ot⟩ := O
  refine ⟨fun pins s σ H Q I h => ?_⟩
  obtain ⟨nm, q, N, bs, bm, sn, sub, ab, col, dd, k0, k1, k2, k3, k5, hC, hbm⟩ := T.cls
  refine wpAny_Call_Name_kw (ld_glob I hg m ?_ hdb)
  refine PySem.W.callWith_K0 I.kIn T.kC ?_
  show wpAny _ _ (call (.ref C) []) _ _ _
  obtain ⟨hp, g, dr, tk, os⟩ := s
  have hsz : hp.objs.size ≤ hp.objs.size + 1 := Nat.le_succ _
  have hn : H (hp.objs.size + 1) = none := I.hok.fresh hsz
  have kk : ∀ b o, hp.get? b = some o → ((hp.push (PySem.W.kdv_tup [])).push (PySem.HandSPX.excO C hp.objs.size)).get? b = some o := fun b o e => Heap.get?_push_of_some _ (Heap.get?_push_of_some _ e)
  have hget : ((hp.push (PySem.W.kdv_tup [])).push (PySem.HandSPX.excO C hp.objs.size)).get? (hp.objs.size + 1) = some (PySem.HandSPX.excO C hp.objs.size) := by heap_get
  have I2 : Inv X pins σ (upd H (hp.objs.size + 1) (exo (hp.objs.size + 1) C none)) ⟨(hp.push (PySem.W.kdv_tup [])).push (PySem.HandSPX.excO C hp.objs.size), g, dr, tk, os⟩ :=
    I.laid (t' := tk) (a := hp.objs.size + 1) (o := exo (hp.objs.size + 1) C none) (h' := (hp.push (PySem.W.kdv_tup [])).push (PySem.HandSPX.excO C hp.objs.size)) kk hsz (exo_ok hget)
  have r2 : Vals [V.ref (hp.objs.size + 1)] [Value.ref (hp.objs.size + 1)] := .cons rfl .nil
  let Q2 : VK := fun v H' => v = .non ∧ Q (.ref (hp.objs.size + 1)) H'
  have hq : spNo C [V.ref (hp.objs.size + 1)] (upd H (hp.objs.size + 1) (exo (hp.objs.size + 1) C none)) Q2 (fun _ _ _ => False) := ⟨_, rfl, upd_same, rfl, h _ hn⟩
  have hl : ([Value.ref (hp.objs.size + 1)] ++ []).length = ps.length := by
    have e := F1.len _ _ _ _ hq
    simpa using e
  have bnd := hb _ [Value.ref (hp.objs.size + 1)] I2.kIn hl
  rw [List.append_nil] at bnd
  refine wpAny_call (PySem.HandSPX.call_own F.excBase_ValueError (fun Y => PySem.HandSPX.refsVE_contains Y bm hbm) (I.kIn _ _ hC) (PySem.W.looks_findIn I.kIn iC) (fun self => PySem.W.bind_fn I.kIn self tI) (Nat.zero_le _)
    (codeAny_mono (F1.run _ X.stack _ _ ⟨[Value.ref (hp.objs.size + 1)], []⟩ [Value.ref (hp.objs.size + 1)] _ _ (fun _ _ _ => False) (hr.make C [] []) (I2.env0.make C [] []) bnd r2 hq) fun r s' hq' => ?_))
  cases r with
  | error er => exact pass0 pins σ _ _ er s' I2 hq'
  | ok fl =>
    cases fl with
    | ret u =>
      obtain ⟨v, H2, I3, rv, ev, q2⟩ := I2.after hq'
      subst ev
      exact ⟨rv, .ref (hp.objs.size + 1), H2, I3, rfl, q2⟩
    | next => exact False.elim hq'
    | brk => exact False.elim hq'
    | cont => exact False.elim hq'
theorem i_own0 {x : Str} {p pos : Pos} (O : KMake X.prog X.w X.K X.mg X.base x) (hr : Room 2 X.A) (hg : Gl X x := by rfl) (hdb : (x == ("__debug__" : Str)) = false := by decide) : PE X (.Call (.Name x p) [] [] pos) (tF (gx X ct) E (fC (.dict [(.none, .none)]))) := by
  obtain ⟨C, O⟩ := O
  exact PEw (pe_own0 O hr hg hdb) fun σ H Q ⟨η, ρ, S, rp, er, h⟩ a ha => h η _ _ (fu_new ha) (rp.new ha) (.d (.own upd_same (rp.notin ha) O.ot))

/-! isinstance of these too -/
def gIsiA (T : String) (w : W) (S : Store) : O := match w with
  | .d (.dict []) => some (.d (.bool (isT "dict" T)), S)
  | .d (.dict ((.bool true, _) :: _)) => some (.d (.bool (isT "dict" T)), S)
  | .d (.dict _) => some (.d (.bool false), S)
  | w => gIsi T w S
theorem call_isiO {T : String} (hT : T ∈ tys) : CallR X (.builtin "isinstance") (fun xs H Q => ∃ a C, xs = [.ref a, .ty T] ∧ H a = some (exo a C none) ∧ OwnT X.K C ∧ Q (.bl false) H) := by
  intro pins s σ H xs us Q I r h
  obtain ⟨a, C, rfl, ha, ot, q⟩ := h
  obtain ⟨u1, u2, rfl, r1, r2⟩ := vals2 r
  cases (show u1 = Value.ref a from r1)
  cases (show u2 = Value.type T from r2)
  obtain ⟨t1, hget⟩ := exo_at I.hok ha
  have C1 := ot.exc
  exact PySem.W.kia_one (PySem.W.handS_kitx_exc C1.hg C1.hk C1.hs C1.hd C1.ha C1.hn C1.ht C1.hm) I.kIn ⟨hget, rfl, rfl, trivial⟩ (ot.not T hT) (fun z => nomatch z) fun tk => ⟨.bl false, H, I.kept (t' := tk) fun _ _ z => z, rfl, q⟩
theorem call_isiT {T : String} (hT : T ∈ tys) : CallR X (.builtin "isinstance") (fun xs H Q => ∃ a C t1 dx fs, xs = [.ref a, .ty T] ∧ H a = some (exoT a C (some dx) t1) ∧ H dx = some (exd dx fs) ∧ OwnT X.K C ∧ Q (.bl false) H) := by
  intro pins s σ H xs us Q I r h
  obtain ⟨a, C, t1, dx, fs, rfl, ha, hx, ot, q⟩ := h
  obtain ⟨u1, u2, rfl, r1, r2⟩ := vals2 r
  cases (show u1 = Value.ref a from r1)
  cases (show u2 = Value.type T from r2)
  have hget := exoT_at I.hok ha
  obtain ⟨od, hod⟩ : ∃ o, s.heap.get? dx = some o := (I.hok dx _ hx).2.1
  exact PySem.W.kia_one (kitx_excD ot.exc) I.kIn ⟨hget, rfl, rfl, hod⟩ (ot.not T hT) (fun z => nomatch z) fun tk => ⟨.bl false, H, I.kept (t' := tk) fun _ _ z => z, rfl, q⟩
theorem i_isiA (T : String) {x : Str} {e : Expr} {p p2 pos : Pos} {f : FE} (hT : T ∈ tys) (hg : Gl X "isinstance") (hm : X.mg "isinstance" = none) (hx : Gl X x) (hmx : X.mg x = none) (hv : bootBuiltins x = some (.type T)) (he : PE X e (tF (gx X ct) E f)) (hn : x ≠ "__name__" := by decide)
    (hd : (x == ("__debug__" : Str)) = false := by decide) (hs : starEach [e, .Name x p2] X.env = (false, eval e X.env) :: starEach [.Name x p2] X.env := by rfl) (hs2 : starEach [.Name x p2] X.env = (false, eval (.Name x p2) X.env) :: starEach [] X.env := by rfl) (hpl : (backTo pos (starEach [.Name x p2] X.env)).any (·.1) = false := by rfl)
    (hb : bootBuiltins "isinstance" = some (.builtin "isinstance") := by decide +kernel) : PE X (.Call (.Name "isinstance" p) [e, .Name x p2] [] pos) (tF (gx X ct) E (f1 (gIsiA T) f)) :=
  PEw (pe_callB (CallR.or (CallR.or call_isi (call_isiO hT)) (call_isiT hT)) hg hm hb (pa_cons he (pa_cons (pe_bltn (v := .ty T) hx hmx hv rfl hn hd) pa_nil hs2) hs) (by decide) (by decide) hs hpl) fun σ H Q ⟨η, ρ, S, rp, er, h⟩ =>
    ⟨η, ρ, S, rp, er, FinR.mono (FinR.bind (rel := relW (gx X ct)) h) fun v H1 ⟨η1, w, S1, f1, rp1, r1, h1⟩ => by
      have h2 : FinP (gx X ct) (E σ) η1 H1 (lift (gIsiA T w S1)) Q := h1
      unfold gIsiA at h2
      split at h2
      · cases r1 with
        | d r1 =>
          cases r1 with
          | dct g1 g2 => exact .inl (.inl ⟨_, .ty T, .type "dict", .type T, isT "dict" T, rfl, .ty T, .base (.dK g1), kit_ty (by decide) hT, h2 η1 H1 _ (Fu.refl _ _) rp1 (.d (.bool _))⟩)
      · cases r1 with
        | d r1 =>
          cases r1 with
          | dctE g1 g2 g3 g4 => exact .inl (.inl ⟨_, .ty T, .type "dict", .type T, isT "dict" T, rfl, .ty T, .base (.dK g1), kit_ty (by decide) hT, h2 η1 H1 _ (Fu.refl _ _) rp1 (.d (.bool _))⟩)
      · rename_i hne hne2
        cases r1 with
        | d r1 =>
          cases r1 with
          | dct g1 g2 => exact absurd rfl hne
          | dctE g1 g2 g3 g4 => exact absurd rfl (hne2 _ _)
          | own g1 g2 g3 => exact .inl (.inr ⟨_, _, rfl, g1, g3, h2 η1 H1 _ (Fu.refl _ _) rp1 (.d (.bool _))⟩)
          | ownE g1 g2 g3 g4 g5 g6 => exact .inr ⟨_, _, _, _, _, rfl, g1, g3, g6.ot, h2 η1 H1 _ (Fu.refl _ _) rp1 (.d (.bool _))⟩
      · cases q : tyW w S1 with
        | none =>
          unfold gIsi at h2
          rw [q] at h2
          exact h2.elim
        | some t =>
          unfold gIsi at h2
          rw [q] at h2
          obtain ⟨ty, ht⟩ := tyW_ok q rp1 r1
          exact .inl (.inl ⟨v, .ty T, .type t, .type T, isT t T, rfl, .ty T, ty, kit_ty ht hT, h2 η1 H1 _ (Fu.refl _ _) rp1 (.d (.bool _))⟩)⟩

/-! tuple(text) -/
def sigD (z : Str) : List PyData := z.cps.toList.map fun c => PyData.str ⟨#[c]⟩
def gTupleA (ws : List W) (S : Store) : O := match ws with
  | [.d (.str z)] => if z.length ≤ lim then some (.d (.tuple (sigD z)), S) else none
  | ws => gTuple ws S
theorem call_tuple_strX (hc : X.calm = true) : CallR X (.type "tuple") (fun xs H Q => ∃ z, xs = [.str z] ∧ z.length ≤ sizeLine ∧ ∀ l, H l = none → Q (.ref l) (upd H l (.tup (z.cps.toList.map fun c => V.str ⟨#[c]⟩)))) := by
  intro pins s σ H xs us Q I r h
  obtain ⟨z, rfl, hz, h⟩ := h
  obtain ⟨u, rfl, rx⟩ := vals1 r
  obtain ⟨t, rfl⟩ := (show ∃ t, u = Value.str z t from rx)
  refine call_tuple_str (hsz := hz) (I.ok.hd hc) z t fun h' tk acc kp it => ?_
  have I1 : Inv X pins σ H { s with heap := h', toks := tk } := I.kept (t' := tk) kp
  have rv : Vals (z.cps.toList.map fun c => V.str ⟨#[c]⟩) acc.toList := by
    refine vals_of_idx _ _ (by rw [List.length_map, Array.length_toList, Array.length_toList]; exact it.1) fun j v hv => ?_
    obtain ⟨c, u, hc, rfl⟩ := it.2 j v (by simpa using hv)
    exact ⟨.str ⟨#[c]⟩, by simp [hc], u, rfl⟩
  refine ⟨.ref h'.objs.size, _, I1.laid (a := h'.objs.size) (o := .tup (z.cps.toList.map fun c => V.str ⟨#[c]⟩)) (t' := tk) (fun b o e => Heap.get?_push_of_some _ e) (Nat.le_refl _) ⟨by rw [List.length_map, Array.length_toList]; exact hz, acc.toList, rv, ⟨_, Heap.get?_push_size _ rfl, rfl, 0, by simp⟩⟩, rfl, h _ (I1.hok.fresh (Nat.le_refl _))⟩
theorem sig_rep {K : PySem.W.Frag} {η : List Addr} {H : Hp} : ∀ l : List Nat, RepDs K η H (l.map fun c => PyData.str ⟨#[c]⟩) (l.map fun c => V.str ⟨#[c]⟩)
  | [] => .nil
  | c :: l => .cons (.str _) (sig_rep l)
theorem c_tupleA (hc : X.calm = true := by rfl) : CallR X (.type "tuple") (SimL X ct gTupleA) := CallR.fit (CallR.or c_tuple (call_tuple_strX hc)) fun xs H Q ⟨η, S, ws, rp, rr, q⟩ => by
  unfold gTupleA at q
  split at q
  · rename_i z
    obtain ⟨v, rfl, r⟩ := repWs1 rr
    split at q
    · rename_i hz
      cases r with | d r => cases r; exact .inr ⟨z, rfl, lim_ok hz, new_tup rp (sig_rep _) q⟩
    · exact q.elim
  · exact .inl ⟨η, S, _, rp, rr, q⟩

/-! a text so many times -/
def mulOk (x : Str) (n : Int) : Bool := decide (1 < n) && decide (n ≤ 1000) && decide (x.length * n.toNat ≤ 1000)
theorem mulOk_ok {x : Str} {n : Int} (h : mulOk x n = true) : MulOk x n := by
  unfold mulOk at h
  simp only [Bool.and_eq_true, decide_eq_true_eq] at h
  obtain ⟨⟨h1, h2⟩, h3⟩ := h
  have hn : n = (n.toNat : Int) := (Int.toNat_of_nonneg (by omega)).symm
  have hx : x.length ≤ 1000 := by
    refine Nat.le_trans ?_ h3
    exact Nat.le_mul_of_pos_right _ (by omega)
  refine ⟨by simp only [Bool.or_eq_false_iff, decide_eq_false_iff_not]; omega, fun _ _ => ?_, fun _ _ => ?_⟩
  · have : 1000 ≤ ((2 : Int) ^ 63 - 1) / n := Int.le_ediv_of_mul_le (by omega) (by
      have : (2 : Int) ^ 63 - 1 = 9223372036854775807 := by decide
      rw [this]
      omega)
    omega
  · unfold Builtin.Str.tooLong
    simp only [decide_eq_false_iff_not]
    have := sizeLine_eq
    omega
def gMulT (a b : W) (S : Store) : O := match a, b with
  | .d (.str x), .d (.int n) => if mulOk x n = true then some (.d (.str (Txt.mul x n)), S) else none
  | _, _ => none
def gMulA (a b : W) (S : Store) : O := match gMulT a b S with
  | some o => some o
  | none => gMul a b S
theorem op_mulT : OpR X (binaryOp .Mult) (fun x y H Q => ∃ z n, x = .str z ∧ y = .int n ∧ MulOk z n ∧ Q (.str (Txt.mul z n)) H) := by
  intro pins s σ H x y u v Q I rx ry h
  obtain ⟨z, n, rfl, rfl, hm, q⟩ := h
  obtain ⟨t, rfl⟩ := (show ∃ t, u = Value.str z t from rx)
  obtain ⟨t2, rfl⟩ := (show ∃ t, v = Value.int n t from ry)
  exact SB.mul hm fun t' k => ⟨.str _, H, I.tok k, ⟨_, rfl⟩, q⟩
theorem sim_mulT : OpR X (binaryOp .Mult) (Sim2 X ct gMulT) := OpR.fit op_mulT fun x y H Q ⟨η, S, wx, wy, rp, rx, ry, h⟩ => by
  unfold gMulT at h
  split at h
  · split at h
    · rename_i hm
      cases rx with
      | d rx =>
        cases ry with
        | d ry =>
          cases rx
          cases ry
          exact ⟨_, _, rfl, rfl, mulOk_ok hm, same_val rp (.d (.str _)) h⟩
    · exact h.elim
  · exact h.elim
theorem sim_mulA : OpR X (binaryOp .Mult) (Sim2 X ct gMulA) := OpR.orElse sim_mulT sim_mul

/-! list + list, to be changed later -/
def gAddL (a b : W) (S : Store) : O := match asL a S, asL b S with
  | some xs, some ys => if xs.length + ys.length ≤ lim then some (.loc S.length, S ++ [.lst (xs ++ ys)]) else none
  | _, _ => none
theorem sim_addL : OpR X (binaryOp .Add) (Sim2 X ct gAddL) := OpR.fit op_cat fun x y H Q ⟨η, S, wx, wy, rp, rx, ry, h⟩ => by
  unfold gAddL at h
  split at h
  · rename_i xs ys e1 e2
    obtain ⟨a, vs, rfl, h1, h2⟩ := asL_ok e1 rp rx
    obtain ⟨b, us, rfl, h3, h4⟩ := asL_ok e2 rp ry
    split at h
    · rename_i hl
      exact ⟨a, b, vs, us, rfl, rfl, h1, h3, lim_ok (by rw [← h2.length, ← h4.length]; exact hl), new_live rp (h2.append h4) h⟩
    · exact h.elim
  · exact h.elim

/-! a call where something may be raised, its live objects going on -/
variable {n k : Nat} {CX : CXT} {x : Str} {ps : List Str} {g : List W → Store → R W} {p pos : Pos} {e : Expr} {es : List Expr} {fa : FA}
theorem cCallEL (C : CalleeC CX X.prog X.w X.K X.mg X.base ct k x ps g) (px : ∀ σ, PassesAt CX X σ (E σ)) (room : Room k X.A) (gd : X.A.guards = some []) (ha : PA X (e :: es) (tA (gx X ct) E fa)) (hn : ps.length = n := by rfl) (hg : Gl X x := by rfl) (hdb : (x == ("__debug__" : Str)) = false := by decide)
    (he : starEach (e :: es) X.env = (false, eval e X.env) :: starEach es X.env := by rfl) (hpl : (backTo pos (starEach es X.env)).any (·.1) = false := by rfl) : PE X (.Call (.Name x p) (e :: es) [] pos) (tF (gx X ct) E (fCallL n g fa)) := by
  obtain ⟨f, fd, F, m, kp, bn⟩ := C
  subst hn
  refine ⟨fun pins s σ H Q inv ⟨η, ρ, S, rp, er, h⟩ => ?_⟩
  refine wpAny_Call_Name_kw (ld_glob inv hg m ?_ hdb)
  refine PySem.W.callWith_K (h₀ := X.base) inv.ok.mod.kin kp (thn (ha.run pos pins s σ H _ inv ⟨η, ρ, S, rp, er, FinR.bind (rel := relL (gx X ct)) h⟩) fun us s1 ⟨vs, H1, inv1, rel, η1, ws, S1, f1, rp1, r1, h1⟩ => ⟨inv1.kIn, ?_⟩) he hpl
  have h2 : FinP (gx X ct) (E σ) η1 H1 (if ws.length = ps.length then g ws S1 else .bad) Q := h1
  by_cases hw : ws.length = ps.length
  · rw [if_pos hw] at h2
    exact run_E F room gd bn (px σ) inv1 rel ⟨by rw [← r1.length]; exact hw, η1, S1, ws, rp1, r1, h2⟩
  · rw [if_neg hw] at h2
    exact h2.elim
end
section
variable {P : Program} {w : World} {K : PySem.W.Frag} {mg : Str → Option Value} {base : Heap} {ct : Nat → Option Addr} {n : Nat} {x : Str} {st : Stmt} {N ps : List Str} {g : List W → Store → R W} {b : FS}
theorem callee2_succ (D : DefAt K mg x st) (hB : Bnd x st ps) (hS : FnScope N ps (defScope st)) (e : ∀ ws S, g ws S = if 2 ≤ n then runB N.length b ws S else .bad)
    (h : 2 ≤ n → ∀ (f : Addr) (cdv : Value) (A : Around) (outer : List Env) (s : Shared) (H : Hp) (E : XK), Room n (A.deeper (envOfC x (defScope st) s.heap.objs.size f cdv)) → A.guards = some [] → PSs (bodyX P w K mg base N x (defScope st) f cdv A outer s H E) (defBody st) (tS ⟨K, ct⟩ NX b)) :
    Callee P w K mg base ct (n + 1) x ps g := by
  by_cases h2 : 2 ≤ n
  · exact callee_succ D hB hS (fun ws S => by rw [e, if_pos h2]) (h h2)
  · exact callee_zero D hB fun ws S => by rw [e, if_neg h2]
/-- the law by its body, where it makes own things -/
theorem law2_of {y : Str} {nm : Str} {fa : Addr} (h2 : 2 ≤ n) (D : DefAt K mg nm st) (hB : Bnd nm st [y]) (hmg : mg nm = some (.ref fa)) (hS : FnScope N [y] (defScope st)) (e : ∀ ws S, g ws S = if 2 ≤ n then runB N.length b ws S else .bad)
    (h : ∀ (base : Heap) (f : Addr) (cdv : Value) (A : Around) (outer : List Env) (s : Shared) (H : Hp) (E : XK), Room n (A.deeper (envOfC nm (defScope st) s.heap.objs.size f cdv)) → A.guards = some [] → PSs (bodyX P w K mg base N nm (defScope st) f cdv A outer s H E) (defBody st) (tS ⟨K, ct⟩ NX b)) :
    ∃ fd : FuncData, (∀ (s : Shared) (u : Value), BindsTo s fd ⟨[u], []⟩ [(y, u)]) ∧ ∀ base : Heap, FnG P w K mg base CX0 (n + 1) fa fd [y] (spG ⟨K, ct⟩ 1 g) :=
  law_of D hB hmg hS (fun ws S => by rw [e, if_pos h2]) h
end
end VI
set_option Elab.async false
set_option linter.all false
set_option maxRecDepth 100000
namespace VI
open PySem PySem.Spec PyProof.Rows L2

/-! an own class without fields, from the head's facts -/
def otB (K : PySem.W.Frag) (C : Addr) : Bool :=
  decide (PySem.W.findIn K (.ref C) "__getattribute__" = some (some (.builtin "BaseException.__getattribute__"))) && (decide (PySem.W.findIn K (.ref C) "__getattr__" = some none) && (decide (PySem.W.subIn K (.ref C) (.type "BaseException") = some true) && (PySem.W.hasDictIn K C &&
  (decide (PySem.W.findIn K (.ref C) "__class__" = some (some (.builtin "object.__class__"))) && (decide (PySem.W.specialIn K (.builtin "object.__class__") "__get__" = some (some (.builtin "getset_descriptor.__get__"))) && (decide (PySem.W.takesIn K (.builtin "object.__class__") = some true) && (decide (PySem.W.mroIn K C (.type "object") = some true) &&
  tys.all fun T => decide (PySem.W.kitOne K (.ref C) (.type T) = some false))))))))
theorem otB_ok {K : PySem.W.Frag} {C : Addr} (h : otB K C = true) : OwnT K C := by
  obtain ⟨h1, h⟩ := He.ba h
  obtain ⟨h2, h⟩ := He.ba h
  obtain ⟨h3, h⟩ := He.ba h
  obtain ⟨h4, h⟩ := He.ba h
  obtain ⟨h5, h⟩ := He.ba h
  obtain ⟨h6, h⟩ := He.ba h
  obtain ⟨h7, h⟩ := He.ba h
  obtain ⟨h8, h⟩ := He.ba h
  exact ⟨⟨of_decide_eq_true h1, of_decide_eq_true h2, of_decide_eq_true h3, h4, of_decide_eq_true h5, of_decide_eq_true h6, of_decide_eq_true h7, of_decide_eq_true h8⟩, fun T m => of_decide_eq_true (List.all_eq_true.mp h T m)⟩
section
variable {K : PySem.W.Frag} {h : Heap} {mg : Str → Option Value} {fas : List He.Fa} {fns : List He.DefD} {P : Program} {w : World} {base : Heap} {k : Nat} {C fI : Addr} {fd : FuncData}
theorem init_no {qual : Str} {pr : Arguments} {body : List Stmt} {sc : Scope} (F : FunD K "__init__" qual pr body sc [] [] fI fd) (hS : FnScope ["self"] ["self"] sc)
    (hb : ∀ (cdv : Value) (A : Around) (outer : List Env) (s : Shared) (H : Hp) (E : XK), PSs (cxOf CX0 P w K mg base ["self"] qual sc fI cdv A outer s H E) body (fun D σ H => D.nx σ H)) :
    FnOk P w K mg base CX0 (k + 1) fI fd ["self"] (spNo C) := by
  refine FunD.ok F hS (fun vs H Q E h => ?_) fun cdv A outer s H vs Q E hr h => ?_
  · obtain ⟨a, rfl, _⟩ := h
    rfl
  · obtain ⟨a, rfl, _, q⟩ := h
    exact ⟨_, hb cdv A outer s H E, q⟩
theorem ownN_of {x qual : Str} {pr : Arguments} {body : List Stmt} {sc : Scope} (X : K.In h) (G : h.Ns mainGlobals mg) (c : (He.Fa.glo x).ok K = true) (T : oexB K (He.ga K x) = true) (ot : otB K (He.ga K x) = true) (m : (He.Fa.meth x "__init__").ok K = true) (ty : decide (PySem.W.typeIn K (.ref (He.ma K (He.ga K x) "__init__")) = some (.type "function")) = true)
    (F : ∃ fd, FunD K "__init__" qual pr body sc [] [] (He.ma K (He.ga K x) "__init__") fd) (hS : FnScope ["self"] ["self"] sc)
    (hB : ∀ (kV doc pm : Value) (an : Option Addr) (cdv ct : Value) (us : List Value), us.length = 1 → bindArgs (PySem.W.fnOf "__init__" qual pr body sc .none kV doc pm an cdv ct) ⟨us, []⟩ = pure ((["self"] : List Str).zip us))
    (hb : ∀ (cdv : Value) (A : Around) (outer : List Env) (s : Shared) (H : Hp) (E : XK), PSs (cxOf CX0 P w K mg base ["self"] qual sc (He.ma K (He.ga K x) "__init__") cdv A outer s H E) body (fun D σ H => D.nx σ H)) : KMake P w K mg base x := by
  obtain ⟨fd, F⟩ := F
  exact ⟨_, He.glo_ok X G c, oexB_ok T, ⟨_, fd, _, (He.meth_ok m).at_, of_decide_eq_true ty, init_no (k := 0) F hS hb, F.bindsN hB⟩, otB_ok ot⟩
theorem pass_body {X : Cx} {pos : Pos} : PSs X [.Pass pos] (fun D σ H => D.nx σ H) := PSsw (pss_one ps_pass) fun D σ H h => h
end
end VI
set_option Elab.async false
set_option linter.all false
set_option maxRecDepth 100000
namespace VI
open PySem PySem.Spec PyProof.Rows L2

/-! all(list), any(list) of truths -/
def boolsD : List PyData → Option (List Bool)
  | [] => some []
  | .bool b :: r => (boolsD r).map (b :: ·)
  | _ => none
theorem boolsD_ok {K : PySem.W.Frag} {η : List Addr} {H : Hp} : ∀ {ds : List PyData} {vs : List V} {bs : List Bool}, boolsD ds = some bs → RepDs K η H ds vs → vs = bs.map V.bl
  | [], _, _, e, r => by
    cases r
    cases e
    rfl
  | .bool b :: ds, _, _, e, r => by
    cases r with
    | cons h1 h2 =>
      cases h1
      cases q : boolsD ds with
      | none => rw [boolsD, q] at e; cases e
      | some ms => rw [boolsD, q] at e; cases e; rw [boolsD_ok q h2]; rfl
  | .none :: _, vs, ns, e, r => by cases e
  | .int _ :: _, vs, ns, e, r => by cases e
  | .str _ :: _, vs, ns, e, r => by cases e
  | .list _ :: _, vs, ns, e, r => by cases e
  | .tuple _ :: _, vs, ns, e, r => by cases e
  | .dict _ :: _, vs, ns, e, r => by cases e
theorem boolsD_map : ∀ bs : List Bool, boolsD (bs.map PyData.bool) = some bs
  | [] => rfl
  | x :: xs => by rw [List.map_cons, boolsD, boolsD_map xs]; rfl
def gAll (ws : List W) (S : Store) : O := match ws with
  | [w] => match asLst w S with
    | some xs => match boolsD xs with
      | some bs => some (.d (.bool (bs.all id)), S)
      | none => none
    | none => none
  | _ => none
def gAny (ws : List W) (S : Store) : O := match ws with
  | [w] => match asLst w S with
    | some xs => match boolsD xs with
      | some bs => some (.d (.bool (bs.any id)), S)
      | none => none
    | none => none
  | _ => none
variable {X : Cx} {ct : Nat → Option Addr}
theorem c_all (hc : X.calm = true) : CallR X (.builtin "all") (SimL X ct gAll) := CallR.fit (cr_all hc) fun xs H Q ⟨η, S, ws, rp, rr, q⟩ => by
  unfold gAll at q
  split at q
  · obtain ⟨v, rfl, r⟩ := repWs1 rr
    split at q
    · rename_i xs e
      obtain ⟨a, vs, rfl, h1, h2⟩ := asLst_ok e rp r
      split at q
      · rename_i bs e2
        have := boolsD_ok e2 h2
        subst this
        exact ⟨a, bs, rfl, h1, same_val rp (.d (.bool _)) q⟩
      · exact q.elim
    · exact q.elim
  · exact q.elim
theorem c_any (hc : X.calm = true) : CallR X (.builtin "any") (SimL X ct gAny) := CallR.fit (cr_any hc) fun xs H Q ⟨η, S, ws, rp, rr, q⟩ => by
  unfold gAny at q
  split at q
  · obtain ⟨v, rfl, r⟩ := repWs1 rr
    split at q
    · rename_i xs e
      obtain ⟨a, vs, rfl, h1, h2⟩ := asLst_ok e rp r
      split at q
      · rename_i bs e2
        have := boolsD_ok e2 h2
        subst this
        exact ⟨a, bs, rfl, h1, same_val rp (.d (.bool _)) q⟩
      · exact q.elim
    · exact q.elim
  · exact q.elim
/-! str(int), str(text) -/
def gStr (ws : List W) (S : Store) : O := match ws with
  | [.d (.int n)] => if n.natAbs.log2 < 1920 then some (.d (.str (toString n)), S) else none
  | [.d (.str a)] => some (.d (.str a), S)
  | _ => none
theorem c_str : CallR X (.type "str") (SimL X ct gStr) := CallR.fit (CallR.or call_str_int SkE.call_str_str) fun xs H Q ⟨η, S, ws, rp, rr, q⟩ => by
  unfold gStr at q
  split at q
  · rename_i n
    obtain ⟨v, rfl, r⟩ := repWs1 rr
    split at q
    · rename_i hn
      cases r with | d r => cases r; exact .inl ⟨n, rfl, hn, same_val rp (.d (.str _)) q⟩
    · exact q.elim
  · rename_i a
    obtain ⟨v, rfl, r⟩ := repWs1 rr
    cases r with | d r => cases r; exact .inr ⟨a, rfl, same_val rp (.d (.str _)) q⟩
  · exact q.elim

/-! startswith, endswith, join -/
def mStarts : GM := fun o ws S => match o, ws with
  | .d (.str a), [.d (.str b)] => some (.d (.bool (Txt.startswith a b)), S)
  | _, _ => none
def mEnds : GM := fun o ws S => match o, ws with
  | .d (.str a), [.d (.str b)] => some (.d (.bool (Txt.endswith a b)), S)
  | _, _ => none
theorem m_starts : MtR X "str.startswith" (SimM X ct mStarts) := MtR.fit mt_startswith fun x xs H Q ⟨η, S, wx, ws, rp, rx, rr, h⟩ => by
  unfold mStarts at h
  split at h
  · rename_i a b
    obtain ⟨v, rfl, r⟩ := repWs1 rr
    cases rx with | d rx => cases r with | d r => cases rx; cases r; exact ⟨a, b, rfl, rfl, same_val rp (.d (.bool _)) h⟩
  · exact h.elim
theorem m_ends : MtR X "str.endswith" (SimM X ct mEnds) := MtR.fit mt_endswith fun x xs H Q ⟨η, S, wx, ws, rp, rx, rr, h⟩ => by
  unfold mEnds at h
  split at h
  · rename_i a b
    obtain ⟨v, rfl, r⟩ := repWs1 rr
    cases rx with | d rx => cases r with | d r => cases rx; cases r; exact ⟨a, b, rfl, rfl, same_val rp (.d (.bool _)) h⟩
  · exact h.elim
def textsD : List PyData → Option (List Str)
  | [] => some []
  | .str b :: r => (textsD r).map (b :: ·)
  | _ => none
theorem textsD_ok {K : PySem.W.Frag} {η : List Addr} {H : Hp} : ∀ {ds : List PyData} {vs : List V} {bs : List Str}, textsD ds = some bs → RepDs K η H ds vs → vs = bs.map V.str
  | [], _, _, e, r => by
    cases r
    cases e
    rfl
  | .str b :: ds, _, _, e, r => by
    cases r with
    | cons h1 h2 =>
      cases h1
      cases q : textsD ds with
      | none => rw [textsD, q] at e; cases e
      | some ms => rw [textsD, q] at e; cases e; rw [textsD_ok q h2]; rfl
  | .none :: _, vs, ns, e, r => by cases e
  | .int _ :: _, vs, ns, e, r => by cases e
  | .bool _ :: _, vs, ns, e, r => by cases e
  | .list _ :: _, vs, ns, e, r => by cases e
  | .tuple _ :: _, vs, ns, e, r => by cases e
  | .dict _ :: _, vs, ns, e, r => by cases e
theorem textsD_map : ∀ bs : List Str, textsD (bs.map PyData.str) = some bs
  | [] => rfl
  | x :: xs => by rw [List.map_cons, textsD, textsD_map xs]; rfl
def mJoin : GM := fun o ws S => match o, ws with
  | .d (.str a), [w] => match asLst w S with
    | some xs => match textsD xs with
      | some ys => if (ys.map (·.length)).sum + ys.length * a.length ≤ 16777216 then some (.d (.str (Txt.join a ys)), S) else none
      | none => none
    | none => none
  | _, _ => none
theorem m_join : MtR X "str.join" (SimM X ct mJoin) := MtR.fit mt_join fun x xs H Q ⟨η, S, wx, ws, rp, rx, rr, h⟩ => by
  unfold mJoin at h
  split at h
  · rename_i a w
    obtain ⟨v, rfl, r⟩ := repWs1 rr
    split at h
    · rename_i xs e
      obtain ⟨p, vs, rfl, h1, h2⟩ := asLst_ok e rp r
      split at h
      · rename_i ys e2
        have := textsD_ok e2 h2
        subst this
        split at h
        · rename_i hz
          cases rx with | d rx => cases rx; exact ⟨a, p, ys, rfl, rfl, .inl h1, hz, same_val rp (.d (.str _)) h⟩
        · exact h.elim
      · exact h.elim
    · exact h.elim
  · exact h.elim
/-! upper, lower -/
def mUpper : GM := fun o ws S => match o, ws with
  | .d (.str a), [] => if a.length ≤ 5592405 then some (.d (.str (Txt.upper a)), S) else none
  | _, _ => none
def mLower : GM := fun o ws S => match o, ws with
  | .d (.str a), [] => if a.length ≤ 5592405 then some (.d (.str (Txt.lower a)), S) else none
  | _, _ => none
theorem m_upper : MtR X "str.upper" (SimM X ct mUpper) := MtR.fit mt_upper fun x xs H Q ⟨η, S, wx, ws, rp, rx, rr, h⟩ => by
  unfold mUpper at h
  split at h
  · rename_i a
    cases rr
    split at h
    · rename_i hz
      cases rx with | d rx => cases rx; exact ⟨a, rfl, rfl, hz, same_val rp (.d (.str _)) h⟩
    · exact h.elim
  · exact h.elim
theorem m_lower : MtR X "str.lower" (SimM X ct mLower) := MtR.fit mt_lower fun x xs H Q ⟨η, S, wx, ws, rp, rx, rr, h⟩ => by
  unfold mLower at h
  split at h
  · rename_i a
    cases rr
    split at h
    · rename_i hz
      cases rx with | d rx => cases rx; exact ⟨a, rfl, rfl, hz, same_val rp (.d (.str _)) h⟩
    · exact h.elim
  · exact h.elim
def fMethS0 (g : GM) (o : FE) : FE := fun ρ S => (o ρ S).bind fun ov S1 => match ov with
  | .d (.str z) => lift (g (.d (.str z)) [] S1)
  | _ => .bad
theorem i_methS0 {E : EX} {o : Expr} {name : Str} {apos cpos : Pos} {id : String} {g : GM} {fo : FE} (slot : Slot "str" name id) (hty : typeOf (.builtin id) = pure (.type "method_descriptor")) (hm : MtR X id (SimM X ct g)) (ho : PE X o (tF (gx X ct) E fo))
    (hbase : attributeBase o name X.env (eval o X.env) = eval o X.env := by rfl) (hline : (apos.endLine == cpos.line) = true := by rfl) :
    PE X (.Call (.Attribute o name apos) [] [] cpos) (tF (gx X ct) E (fMethS0 g fo)) := PEw (pe_bm0 PySem.F.plainAttrs_str slot hty hm ho hbase hline) fun σ H Q ⟨η, ρ, S, rp, er, h⟩ =>
  ⟨η, ρ, S, rp, er, FinR.mono (FinR.bind (rel := relW (gx X ct)) h) fun v H1 ⟨η1, w, S1, f1, rp1, r1, h1⟩ => by
    split at h1
    · rename_i z
      have r0 := r1
      cases r1 with
      | d r1 =>
        cases r1
        exact ⟨rfl, η1, S1, _, [], rp1, r0, .nil, lift_ok h1⟩
    · exact h1.elim⟩
end VI
set_option Elab.async false
set_option linter.all false
set_option maxRecDepth 100000
set_option maxHeartbeats 4000000
namespace VI
open PySem PySem.Spec PyProof.Rows L2

/-! tuple * int -/
theorem tuple_mul1 (l : Addr) (items : Array Value) (n : Nat) (dd : Option Addr) (sl : Array (Option Value)) (u : Tok) :
    Meets (Builtin.«tuple.__mul__» ⟨[.ref l, .int 1 u], []⟩) (fun _ R s => s.heap.get? l = some { cls := .type "tuple", dict := dd, data := .seq items n, slots := sl } ∧
      R (.ok (.ret (Value.ref l))) s) :=
  .of_wp fun prog w A R s h => by
    obtain ⟨hp, g, d, tk, os⟩ := s
    obtain ⟨hl, h⟩ := h
    have f1 := AutoSeq1.idx_int
    wp_walk using wpAny_loadPart' hl
    exact ⟨_, rfl, h⟩
theorem op_repT1 {X : Cx} : OpR X (binaryOp .Mult) (fun x y H Q => ∃ l xs, x = .ref l ∧ y = .int 1 ∧ SqT X.K H l xs ∧ Q (.ref l) H) := by
  intro pins s σ H x y v u Q I rx ry h
  obtain ⟨l, xs, rfl, rfl, hT, q⟩ := h
  cases rx
  obtain ⟨t, rfl⟩ := ry
  obtain ⟨its, r, ⟨⟨cls, dd, data, sl⟩, ho, hc, n, hd⟩, hs⟩ := I.tuple hT
  simp only at hc hd
  subst hc hd
  refine wpAny_binaryOp_repeat_ref (T := "tuple") (U := "int") (by decide) ⟨_, ho, rfl⟩ (fun s' => typeIs_int s' 1 t) noFill_tuple_mul F.fills_int_mul F.slot_int_rmul repeat_tuple F.slot_int_index.lookup
    (call_meets F.slot_int_rmul (typeIs_int s 1 t) F.entry_int_rmul (F.args_int_rmul_2 _ _) (int_rmul_tuple 1 t l its.toArray n dd sl)
      ⟨ho, rfl, ⟨_, ho, rfl⟩, call_meets F.slot_tuple_mul ⟨_, ho, rfl⟩ F.entry_tuple_mul (F.args_tuple_mul_2 _ _) (tuple_mul1 l its.toArray n dd sl t) ⟨ho, ?_⟩⟩)
  exact ⟨.ref l, H, I, rfl, q⟩
def gRepT (a b : W) (S : Store) : O := match a, b with
  | .d (.tuple xs), .d (.int k) => if xs ≠ [] ∧ xs.length ≤ 1000 ∧ 2 ≤ k ∧ k ≤ 1000 then some (.d (.tuple (List.replicate k.toNat xs).flatten), S) else none
  | _, _ => none
def gRep1 (a b : W) (S : Store) : O := match a, b with
  | .d (.tuple xs), .d (.int k) => if k = 1 then some (.d (.tuple xs), S) else none
  | _, _ => none
def gMulB (a b : W) (S : Store) : O := match gRep1 a b S with
  | some o => some o
  | none => gRepT a b S
section
variable {X : Cx} {ct : Nat → Option Addr}
theorem rep_rep {K : PySem.W.Frag} {η : List Addr} {H : Hp} {ds : List PyData} {vs : List V} (r : RepDs K η H ds vs) : ∀ k : Nat, RepDs K η H (List.replicate k ds).flatten (List.replicate k vs).flatten
  | 0 => .nil
  | k + 1 => by
    rw [List.replicate_succ, List.replicate_succ, List.flatten_cons, List.flatten_cons]
    exact r.append (rep_rep r k)
theorem sim_rep1 : OpR X (binaryOp .Mult) (Sim2 X ct gRep1) := OpR.fit op_repT1 fun x y H Q ⟨η, S, wx, wy, rp, rx, ry, h⟩ => by
  unfold gRep1 at h
  split at h
  · split at h
    · rename_i hk
      subst hk
      cases rx with
      | d rx =>
        cases ry with
        | d ry =>
          cases ry
          cases rx with
          | tuple h1 h2 => exact ⟨_, _, rfl, rfl, h1, same_val rp (.d (.tuple h1 h2)) h⟩
    · exact h.elim
  · exact h.elim
theorem sim_repT : OpR X (binaryOp .Mult) (Sim2 X ct gRepT) := OpR.fit op_repT fun x y H Q ⟨η, S, wx, wy, rp, rx, ry, h⟩ => by
  unfold gRepT at h
  split at h
  · split at h
    · rename_i xs k hk
      obtain ⟨hk1, hk2, hk3, hk4⟩ := hk
      cases rx with
      | d rx =>
        cases ry with
        | d ry =>
          cases ry
          cases rx with
          | tuple h1 h2 =>
            refine ⟨_, _, _, rfl, rfl, h1, ?_, hk3, hk4, by rw [← h2.length]; exact hk2, new_tup rp (rep_rep h2 _) h⟩
            intro e
            subst e
            exact hk1 (List.eq_nil_of_length_eq_zero (by rw [h2.length]; rfl))
    · exact h.elim
  · exact h.elim
theorem sim_mulB : OpR X (binaryOp .Mult) (Sim2 X ct gMulB) := OpR.orElse sim_rep1 sim_repT
end
end VI
set_option Elab.async false
set_option linter.all false
set_option maxRecDepth 100000
set_option maxHeartbeats 4000000
namespace VI
open PySem PySem.Spec PyProof.Rows L2

/-! sorted, of tuples of ints of any length, the first of which is empty -/
section
variable {prog : Program} {w : World} {A : Around} {E : Value → Shared → Prop} {s : Shared}
/-- v is a tuple of these ints -/
def TupI (h : Heap) (v : Value) (ns : List Int) : Prop := ∃ (a : Addr) (its : Array Value), v = .ref a ∧ IsTup h a its ∧ IntsAre its.toList ns
theorem oneLt_tup {u v : Value} {ns ms : List Int} {Q : Bool → Shared → Prop} (hv : TupI s.heap v ns) (hu : TupI s.heap u ms) (hr : A.units < cLine) (h : Q (HT.lexLt ns ms) s) : wpAny (model prog w) A (oneLt' true v u) Q E s := by
  obtain ⟨l, items, rfl, hl, hi⟩ := hv
  obtain ⟨b, items2, rfl, hb, hj⟩ := hu
  obtain ⟨⟨cls, dd, data, sl⟩, ho, hc, n, hd⟩ := id hl
  obtain ⟨⟨cls2, dd2, data2, sl2⟩, ho2, hc2, n2, hd2⟩ := id hb
  simp only at hc hd hc2 hd2
  subst hc hd hc2 hd2
  rw [oneLt'_eq]
  simp only [if_true]
  refine wpAny_bind (wpAny_cRoomFor hr ?_)
  refine wpAny_bind (wpAny_callSpecialIfBound?_slot ⟨_, ho, rfl⟩ PySem.F.slot_tuple_lt (call_meets PySem.F.slot_tuple_lt ⟨_, ho, rfl⟩ PySem.F.entry_tuple_lt (PySem.F.args_tuple_lt_2 _ _) (HT.tuple_lt_ints l b items items2 n n2 dd dd2 sl sl2 ns ms hi hj) ⟨ho, ho2, ?_⟩))
  exact wpAny_truthy_bool h
theorem TupI.keep {h h' : Heap} {v : Value} {ns : List Int} {a : Addr} (t : TupI h v ns) (ha : ∀ o, h.get? a = some o → o.cls ≠ .type "tuple") (k : ∀ b o, b ≠ a → h.get? b = some o → h'.get? b = some o) : TupI h' v ns := by
  obtain ⟨l, its, rfl, ⟨o, ho, hc, n, hd⟩, hi⟩ := t
  exact ⟨l, its, rfl, ⟨o, k l o (fun z => by subst z; exact ha o ho hc) ho, hc, n, hd⟩, hi⟩
theorem first_at {M : Model} {a : Addr} {its : Array Value} {Q : Option Value → Shared → Prop} (t : IsTup s.heap a its) (h : Q its[0]? s) : wpAny M A (firstOfTuple' (.ref a)) Q E s := by
  obtain ⟨o, ho, hc, n, hd⟩ := t
  rw [PySem.W.kas_first_eq]
  refine wpAny_bind (PySem.W.Looks.here (show PySem.W.Looks M s.heap (typeOf (.ref a)) o.cls from (PySem.W.Looks.ld ho).andThen .now) ?_)
  rw [hc, if_neg (by first | decide | simp)]
  exact wpAny_bind (listItems_at ho hd (wpAny_pure h))
theorem firsts_any {M : Model} : ∀ (vs : List Value) {Q : List (Option Value) → Shared → Prop}, (∀ v ∈ vs, ∃ ns, TupI s.heap v ns) → (∀ bs, Q bs s) → wpAny M A (vs.mapM firstOfTuple') Q E s
  | [], Q, _, h => by rw [List.mapM_nil]; exact wpAny_pure (h [])
  | v :: vs, Q, ht, h => by
    obtain ⟨ns, a, its, rfl, t, _⟩ := ht v (by simp)
    rw [List.mapM_cons]
    exact wpAny_bind (first_at t (wpAny_bind (firsts_any vs (fun u m => ht u (by simp [m])) fun bs => wpAny_pure (h _))))
theorem kind_tup {M : Model} {v : Value} {vs : List Value} {Q : SortKind → Shared → Prop} (h0 : TupI s.heap v []) (ht : ∀ u ∈ vs, ∃ ns, TupI s.heap u ns) (h : Q oneType' s) : wpAny M A (keyKind' (v :: vs).toArray) Q E s := by
  have hall : ∀ u ∈ v :: vs, PySem.W.Looks M s.heap (typeOf u) (.type "tuple") := fun u hu => by
    obtain ⟨ns, a, its, rfl, ⟨o, ho, hc, _⟩, _⟩ := show ∃ ns, TupI s.heap u ns from by
      rcases List.mem_cons.mp hu with rfl | hu
      · exact ⟨_, h0⟩
      · exact ht u hu
    exact hc ▸ (show PySem.W.Looks M s.heap (typeOf (.ref a)) o.cls from (PySem.W.Looks.ld ho).andThen .now)
  obtain ⟨a, its, rfl, t, hi⟩ := h0
  have e0 : its[0]? = none := by
    have z : its.toList.length = 0 := hi.length
    rw [Array.length_toList] at z
    exact Array.getElem?_eq_none (by omega)
  rw [keyKind'_eq, List.mapM_toArray, map_eq_pure_bind]
  refine wpAny_bind (wpAny_bind ?_)
  rw [List.mapM_cons]
  refine wpAny_bind (first_at t ?_)
  rw [e0]
  refine wpAny_bind (firsts_any vs ht fun bs => wpAny_pure ?_)
  refine wpAny_pure ?_
  rw [if_neg (by simp), if_neg (by simp)]
  rw [oneTypeOnly'_eq, List.mapM_toArray, map_eq_pure_bind]
  refine wpAny_bind (wpAny_bind (wpAny_bind (PySem.W.kas_mapM (r := Value.type "tuple") _ (fun v hv Q' hq => (hall v hv).here hq) (wpAny_pure ?_))))
  have hall2 : ((List.map (fun _ => Value.type "tuple") (Value.ref a :: vs)).toArray.all fun x => x == Value.type "tuple") = true := by
    simp only [List.all_toArray, List.all_map, List.all_eq_true]
    intro _ _
    rfl
  have h1 : (List.map (fun _ => Value.type "tuple") (Value.ref a :: vs)).toArray[0]? = some (Value.type "tuple") := by simp
  rw [h1]
  simp only [hall2, if_true]
  exact wpAny_pure (wpAny_pure h)
/-- the ints of a key, told by the heap -/
noncomputable def keyI (h : Heap) (v : Value) : List Int := by
  classical
  exact if e : ∃ ns, TupI h v ns then e.choose else []
theorem ints_uniq : ∀ {vs : List Value} {ns ms : List Int}, IntsAre vs ns → IntsAre vs ms → ns = ms
  | _, _, _, .nil, h => by cases h; rfl
  | _, _, _, .cons n t a, h => by
    cases h with
    | cons _ _ b => rw [ints_uniq a b]
theorem TupI.uniq {h : Heap} {v : Value} {ns ms : List Int} (a : TupI h v ns) (b : TupI h v ms) : ns = ms := by
  obtain ⟨l, its, rfl, ⟨o, ho, _, n, hd⟩, hi⟩ := a
  obtain ⟨l2, its2, e, ⟨o2, ho2, _, n2, hd2⟩, hi2⟩ := b
  cases e
  rw [ho] at ho2
  cases ho2
  rw [hd] at hd2
  cases hd2
  exact ints_uniq hi hi2
theorem keyI_eq {h : Heap} {v : Value} {ns : List Int} (t : TupI h v ns) : keyI h v = ns := by
  unfold keyI
  rw [dif_pos ⟨ns, t⟩]
  exact TupI.uniq (Exists.choose_spec (⟨ns, t⟩ : ∃ ns, TupI h v ns)) t
theorem tups_sortable {a : Addr} {v : Value} {vs : List Value} {k : Value → List Int} (h0 : TupI s.heap v []) (ht : ∀ u ∈ v :: vs, TupI s.heap u (k u)) (hr : A.units < cLine) (ha : ∀ o, s.heap.get? a = some o → o.cls ≠ .type "tuple") :
    SrtO.SortableO prog w A s a (v :: vs) fun v u => HT.lexLt (k v) (k u) := by
  intro h' keep
  have ht' : ∀ u ∈ v :: vs, TupI h' u (k u) := fun u m => (ht u m).keep ha keep
  refine ⟨oneType', fun Q E hq => kind_tup (s := { s with heap := h' }) (h0.keep ha keep) (fun u m => ⟨_, ht' u (by simp [m])⟩) hq, fun p q hp hq => ?_⟩
  show wpAny (model prog w) A (keyLt' oneType' p.1 q.1) _ _ _
  rw [keyLt'_oneType]
  exact oneLt_tup (s := { s with heap := h' }) (ht' _ hp) (ht' _ hq) hr ⟨rfl, rfl⟩
theorem sorted_tups {l : Addr} {v : Value} {vs : List Value} {k : Value → List Int} {Q : Value → Shared → Prop} (hl : s.heap.IsList l (v :: vs).toArray) (hz : (v :: vs).length ≤ sizeLine) (h0 : TupI s.heap v []) (ht : ∀ u ∈ v :: vs, TupI s.heap u (k u)) (hr : A.units + 2 < cLine)
    (h : ∀ (h' : Heap) (d : Addr) (out : List Value), SrtO.Srtd (fun v u => HT.lexLt (k v) (k u)) out → SrtO.Stb (fun v u => HT.lexLt (k v) (k u)) out (v :: vs) → (∀ b o, s.heap.get? b = some o → h'.get? b = some o) → s.heap.objs.size ≤ d → (∃ n, h'.get? d = some (seqObj "list" out.toArray n)) → Q (.ref d) { s with heap := h' }) :
    wpAny (model prog w) A (call (.builtin "sorted") [.ref l]) Q E s := by
  refine SrtO.sorted_ord (NtL.swo_lexL k) hl hz (fun h2 h₁ a ha kk => ?_) fun out hs hb => ?_
  · have kp : ∀ {u : Value} {ns : List Int}, TupI s.heap u ns → TupI h₁ u ns := fun {u ns} t => by
      obtain ⟨b, its, rfl, ⟨o, ho, hc, n, hd⟩, hi⟩ := t
      exact ⟨b, its, rfl, ⟨o, (kk b o ho).2, hc, n, hd⟩, hi⟩
    refine tups_sortable (s := { s with heap := h₁ }) (kp h0) (fun u m => kp (ht u m)) (by show A.units + 1 + 1 < cLine; omega) fun o e => ?_
    have e' : some o = some (seqObj "list" (v :: vs).toArray 0) := e.symm.trans ha
    cases e'
    intro c
    exact absurd (Value.type.inj c) (by decide)
  · exact h _ _ out hs hb (fun b o e => sortedAll_old e) (Nat.le_succ _) (sortedAll_at s.heap (v :: vs) out.toArray)
end
/-! the rule -/
def leT (x y : List Int) : Bool := !HT.lexLt y x
theorem leT_trans {x y z : List Int} (h1 : leT x y = true) (h2 : leT y z = true) : leT x z = true := by
  unfold leT at h1 h2 ⊢
  rw [Bool.not_eq_true'] at h1 h2 ⊢
  exact NtL.lex_tr _ _ _ h1 h2
theorem leT_total (x y : List Int) : leT x y = true ∨ leT y x = true := by
  unfold leT
  rw [Bool.not_eq_true', Bool.not_eq_true']
  cases e : HT.lexLt y x with
  | false => exact .inl rfl
  | true => exact .inr (NtL.lex_asym _ _ e)
theorem lex_anti : ∀ {x y : List Int}, HT.lexLt x y = false → HT.lexLt y x = false → x = y
  | [], [], _, _ => rfl
  | [], _ :: _, h, _ => by rw [HT.lexLt_nil_cons] at h; cases h
  | _ :: _, [], _, h => by rw [HT.lexLt_nil_cons] at h; cases h
  | a :: x, b :: y, h1, h2 => by
    rw [HT.lexLt_cons] at h1 h2
    by_cases e : a = b
    · subst e
      rw [if_pos rfl] at h1 h2
      rw [lex_anti h1 h2]
    · rw [if_neg e, decide_eq_false_iff_not] at h1
      rw [if_neg (Ne.symm e), decide_eq_false_iff_not] at h2
      omega
theorem leT_anti {x y : List Int} (h1 : leT x y = true) (h2 : leT y x = true) : x = y := by
  unfold leT at h1 h2
  rw [Bool.not_eq_true'] at h1 h2
  exact lex_anti h2 h1
def srtT (zs : List (List Int)) : List (List Int) := zs.mergeSort leT
theorem srtT_eq {ys zs : List (List Int)} (hp : ys.Perm zs) (hs : ys.Pairwise fun a b => leT a b = true) : ys = srtT zs :=
  List.Perm.eq_of_pairwise (fun a b _ _ h1 h2 => leT_anti h1 h2) hs (List.pairwise_mergeSort (le := leT) (fun a b c => leT_trans) (fun a b => (Bool.or_eq_true _ _).mpr (leT_total a b)) zs) (hp.trans (List.mergeSort_perm zs leT).symm)
theorem intsD_eq : ∀ {ds : List PyData} {ns : List Int}, intsD ds = some ns → ds = ns.map PyData.int
  | [], ns, h => by cases h; rfl
  | d :: ds, ns, h => by
    cases d with
    | int i =>
      rw [intsD] at h
      cases e : intsD ds with
      | none => rw [e] at h; cases h
      | some ms =>
        rw [e] at h
        cases h
        rw [intsD_eq e]
        rfl
    | _ => cases h
def tupsD : List PyData → Option (List (List Int))
  | [] => some []
  | .tuple xs :: r => match intsD xs, tupsD r with
    | some ns, some ks => some (ns :: ks)
    | _, _ => none
  | _ :: _ => none
def tupD (ns : List Int) : PyData := .tuple (ns.map PyData.int)
theorem tupsD_map : ∀ ks : List (List Int), tupsD (ks.map tupD) = some ks
  | [] => rfl
  | k :: ks => by
    rw [List.map_cons]
    show (match intsD (k.map PyData.int), tupsD (ks.map tupD) with | some ns, some ks => some (ns :: ks) | _, _ => none) = _
    rw [intsD_map, tupsD_map ks]
theorem tupsD_ok : ∀ {ds : List PyData} {ks : List (List Int)}, tupsD ds = some ks → ds = ks.map tupD
  | [], ks, h => by cases h; rfl
  | d :: ds, ks, h => by
    cases d with
    | tuple xs =>
      rw [tupsD] at h
      cases e : intsD xs with
      | none => rw [e] at h; cases h
      | some ns =>
        cases e2 : tupsD ds with
        | none => rw [e, e2] at h; cases h
        | some ms =>
          rw [e, e2] at h
          cases h
          rw [tupsD_ok e2, List.map_cons, intsD_eq e]
          rfl
    | _ => cases h
def gSortT (ws : List W) (S : Store) : O := match ws with
  | [u] => match asLW u S with
    | some us => match datas us with
      | some ds => match tupsD ds with
        | some ([] :: ks) => if ks.length < 1000000 then some (.d (.list ((srtT ([] :: ks)).map tupD)), S) else none
        | _ => none
      | none => none
    | none => none
  | _ => none
def gSortA (ws : List W) (S : Store) : O := match gSorted ws S with
  | some o => some o
  | none => gSortT ws S
section
variable {X : Cx} {ct : Nat → Option Addr}
/-- tuples of ints in the heap -/
def VTups (K : PySem.W.Frag) (H : Hp) : List V → List (List Int) → Prop
  | [], [] => True
  | v :: vs, k :: ks => (∃ a, v = .ref a ∧ SqT K H a (k.map V.int)) ∧ VTups K H vs ks
  | _, _ => False
theorem vtups_of {K : PySem.W.Frag} {η : List Addr} {H : Hp} : ∀ {ks : List (List Int)} {vs : List V}, RepDs K η H (ks.map tupD) vs → VTups K H vs ks
  | [], _, h => by cases h; trivial
  | k :: ks, _, h => by
    rw [List.map_cons] at h
    cases h with
    | cons h1 h2 =>
      refine ⟨?_, vtups_of h2⟩
      cases h1 with
      | tuple h3 h4 =>
        rw [intsD_ok (intsD_map k) h4] at h3
        exact ⟨_, rfl, h3⟩
theorem rep_vtups {K : PySem.W.Frag} {η : List Addr} {H : Hp} : ∀ {ks : List (List Int)} {vs : List V}, VTups K H vs ks → RepDs K η H (ks.map tupD) vs
  | [], [], _ => .nil
  | [], _ :: _, h => h.elim
  | _ :: _, [], h => h.elim
  | k :: ks, v :: vs, ⟨⟨a, e, h1⟩, h2⟩ => by
    subst e
    exact .cons (.tuple h1 (ints_map k)) (rep_vtups h2)
where ints_map {K : PySem.W.Frag} {η : List Addr} {H : Hp} : ∀ ns : List Int, RepDs K η H (ns.map PyData.int) (ns.map V.int)
  | [] => .nil
  | n :: ns => .cons (.int n) (ints_map ns)

def refV (u : Value) : V := match u with
  | .ref a => .ref a
  | _ => .non
theorem vtups_its {K : PySem.W.Frag} {H : Hp} {X : Cx} {pins : List (Addr × Obj)} {σ : L2.St} {s : Shared} (hK : X.K = K) (I : Inv X pins σ H s) : ∀ {vs : List V} {its : List Value} {ks : List (List Int)}, Vals vs its → VTups K H vs ks →
    its.map (keyI s.heap) = ks ∧ ∀ u ∈ its, (∃ a, u = .ref a ∧ SqT K H a ((keyI s.heap u).map V.int)) ∧ TupI s.heap u (keyI s.heap u)
  | [], _, [], r, _ => by cases r; exact ⟨rfl, fun _ h => by cases h⟩
  | [], _, _ :: _, _, h => h.elim
  | _ :: _, _, [], _, h => h.elim
  | v :: vs, _, k :: ks, r, ⟨⟨a, e, h1⟩, h2⟩ => by
    subst e
    cases r with
    | cons r1 r2 =>
      rename_i u us
      obtain rfl : u = .ref a := r1
      obtain ⟨e1, e2⟩ := vtups_its hK I r2 h2
      subst hK
      obtain ⟨its, rv, t, _⟩ := I.tuple h1
      have ti : TupI s.heap (.ref a) k := ⟨a, its.toArray, rfl, t, intsAre_of rv⟩
      have ke := keyI_eq ti
      refine ⟨by rw [List.map_cons, ke, e1], fun u hu => ?_⟩
      rcases List.mem_cons.mp hu with rfl | hu
      · rw [ke]
        exact ⟨⟨a, rfl, h1⟩, ti⟩
      · exact e2 u hu
theorem vals_refV : ∀ {us : List Value}, (∀ u ∈ us, ∃ a, u = .ref a) → Vals (us.map refV) us
  | [], _ => .nil
  | u :: us, h => by
    obtain ⟨a, rfl⟩ := h u (by simp)
    exact .cons rfl (vals_refV fun u m => h u (by simp [m]))
theorem vtups_refV {K : PySem.W.Frag} {H : Hp} {k : Value → List Int} : ∀ {us : List Value}, (∀ u ∈ us, ∃ a, u = .ref a ∧ SqT K H a ((k u).map V.int)) → VTups K H (us.map refV) (us.map k)
  | [], _ => trivial
  | u :: us, h => by
    obtain ⟨a, e, h1⟩ := h u (by simp)
    refine ⟨⟨a, by rw [e]; rfl, h1⟩, vtups_refV fun u m => h u (by simp [m])⟩
theorem cr_sortedT (hr : X.A.units + 64 < cLine) : CallR X (.builtin "sorted") (fun xs H Q => ∃ a vs ks, xs = [.ref a] ∧ SqL X.K H a vs ∧ VTups X.K H vs ([] :: ks) ∧ ∀ (ys : List V) (js : List (List Int)) (p : Addr), js.Perm ([] :: ks) → (js.Pairwise fun a b => leT a b = true) → VTups X.K H ys js → H p = none → Q (.ref p) (upd H p (.lst ys))) := by
  intro pins s σ H xs us Q I r h
  obtain ⟨a, vs, ks, rfl, hs, ht, q⟩ := h
  obtain ⟨its, rv, hl, hlen⟩ := I.list hs
  rw [Vals.ref1 r]
  obtain ⟨e1, e2⟩ := vtups_its rfl I rv ht
  have ln := rv.length
  cases its with
  | nil => cases e1
  | cons u0 us0 =>
    rw [List.map_cons] at e1
    injection e1 with e3 e4
    have t0 := (e2 u0 (by simp)).2
    rw [e3] at t0
    refine sorted_tups (k := keyI s.heap) hl.isList (by rw [← ln]; exact hlen) t0 (fun u m => (e2 u m).2) (by omega) fun h' d out hs hb keep hd hg => ?_
    obtain ⟨n, hg⟩ := hg
    have pm : out.Perm (u0 :: us0) := hb.perm
    have mm : ∀ u ∈ out, (∃ a, u = .ref a ∧ SqT X.K H a ((keyI s.heap u).map V.int)) ∧ TupI s.heap u (keyI s.heap u) := fun u m => e2 u (pm.mem_iff.mp m)
    have hz : (out.map refV).length ≤ sizeLine := by rw [List.length_map, pm.length_eq, ← ln]; exact hlen
    refine ⟨.ref d, upd H d (.lst (out.map refV)), I.laid (t' := s.toks) keep hd ⟨hz, out, n, vals_refV fun u m => by
      obtain ⟨⟨a, e, _⟩, _⟩ := mm u m
      exact ⟨a, e⟩, hg⟩, rfl, q _ (out.map (keyI s.heap)) d ?_ ?_ (vtups_refV fun u m => (mm u m).1) (I.hok.fresh hd)⟩
    · have := pm.map (keyI s.heap)
      rw [List.map_cons, e3, e4] at this
      exact this
    · refine List.pairwise_map.mpr (hs.imp fun {x y} e => ?_)
      show (!HT.lexLt (keyI s.heap y) (keyI s.heap x)) = true
      rw [show HT.lexLt (keyI s.heap y) (keyI s.heap x) = false from e]
      rfl
theorem c_sortedT (hr : X.A.units + 64 < cLine) : CallR X (.builtin "sorted") (SimL X ct gSortT) := CallR.fit (cr_sortedT hr) fun xs H Q ⟨η, S, ws, rp, rr, q⟩ => by
  unfold gSortT at q
  split at q
  · rename_i u
    obtain ⟨v, rfl, r⟩ := repWs1 rr
    split at q
    · rename_i us e1
      obtain ⟨a, vs, rfl, h1, h2⟩ := asLW_ok e1 rp r
      split at q
      · rename_i ds e2
        have h3 := datas_ok e2 h2
        split at q
        · rename_i ks e3
          split at q
          · rename_i hl
            have ed := tupsD_ok e3
            rw [ed] at h3
            refine ⟨a, vs, ks, rfl, h1, vtups_of h3, fun ys js p hp hs ht np => ?_⟩
            rw [← srtT_eq hp hs] at q
            exact new_list rp (rep_vtups ht) q p np
          · exact q.elim
        · exact q.elim
      · exact q.elim
    · exact q.elim
  · exact q.elim
theorem c_sortedA (hr : X.A.units + 64 < cLine) : CallR X (.builtin "sorted") (SimL X ct gSortA) := CallR.fit (CallR.or c_sorted (c_sortedT hr)) fun xs H Q ⟨η, S, ws, rp, rr, q⟩ => by
  unfold gSortA at q
  cases e : gSorted ws S with
  | some o => rw [e] at q; exact .inl ⟨η, S, ws, rp, rr, by rw [e]; exact q⟩
  | none => rw [e] at q; exact .inr ⟨η, S, ws, rp, rr, q⟩
end
end VI
set_option Elab.async false
set_option linter.all false
set_option maxRecDepth 100000
namespace VI
open PySem PySem.Spec PyProof.Rows L2

/-! repr of dicts and own exceptions that are values -/
mutual
/-- data whose dicts are told whole -/
def okD : PyData → Bool
  | .list xs => okDs xs
  | .tuple xs => okDs xs
  | .dict ((.bool true, .none) :: ps) => okKv ps
  | .dict _ => false
  | _ => true
def okDs : List PyData → Bool
  | [] => true
  | x :: xs => okD x && okDs xs
def okKv : List (PyData × PyData) → Bool
  | [] => true
  | (_, v) :: r => okD v && okKv r
end
mutual
/-- the data as it is -/
def realD : PyData → PyData
  | .list xs => .list (realDs xs)
  | .tuple xs => .tuple (realDs xs)
  | .dict ((.bool true, .none) :: ps) => .dict (realKv ps)
  | x => x
def realDs : List PyData → List PyData
  | [] => []
  | x :: xs => realD x :: realDs xs
def realKv : List (PyData × PyData) → List (PyData × PyData)
  | [] => []
  | (k, v) :: r => (k, realD v) :: realKv r
end
theorem okKv_snd : ∀ ps : List (PyData × PyData), okKv ps = okDs (ps.map (·.2))
  | [] => rfl
  | (k, v) :: r => by rw [okKv, List.map_cons, okDs, okKv_snd r]
theorem realKv_fst : ∀ ps : List (PyData × PyData), (realKv ps).map (·.1) = ps.map (·.1)
  | [] => rfl
  | (k, v) :: r => by rw [realKv, List.map_cons, List.map_cons, realKv_fst r]
theorem realKv_snd : ∀ ps : List (PyData × PyData), (realKv ps).map (·.2) = realDs (ps.map (·.2))
  | [] => rfl
  | (k, v) :: r => by rw [realKv, List.map_cons, List.map_cons, realDs, realKv_snd r]
section
variable {P : Program} {w : World} {h : Heap}
theorem kv_reads : ∀ {kvs : List (Key × V)} {vs : List (Key × Value)} {es : List DictEntry}, KV kvs vs → Pairs (mixKind P w) es vs → Vals (kvs.map (·.2)) (es.map (·.val)) ∧ ReadsAll h (es.map fun x => x.key) (kvs.map fun p => keyD p.1) []
  | [], _, _, k, p => by
    cases k
    cases p
    exact ⟨.nil, .nil⟩
  | (i, j) :: kvs, _, _, k, p => by
    cases k with
    | cons k1 k2 =>
      cases p with
      | cons p1 p2 p3 =>
        obtain ⟨r1, r2⟩ := kv_reads k2 p3
        obtain ⟨e1, e2⟩ := k1
        rw [mixKind_is, ← e1] at p1
        rename_i kv vs' e es'
        refine ⟨?_, ?_⟩
        · rw [List.map_cons, List.map_cons, p2]
          exact .cons e2 r1
        · rw [List.map_cons, List.map_cons]
          rcases keyIs_shape p1 with ⟨i, t, e1, e2⟩ | ⟨x, t, e1, e2⟩
          · rw [e2]
            have e1' : _ = Sum.inl i := e1
            dsimp only at e1'
            subst e1'
            exact .cons (as := []) (.int i t) r2
          · rw [e2]
            have e1' : _ = Sum.inr x := e1
            dsimp only at e1'
            subst e1'
            exact .cons (as := []) (.str x t) r2
end
section
variable {X : Cx} {pins : List (Addr × Obj)} {σ : L2.St} {H : Hp} {s : Shared} {η : List Addr}
theorem sys_none (I : Inv X pins σ H s) (hk : (X.K.lookup sysModules).isSome = true) : H sysModules = none := by
  obtain ⟨o, e⟩ := Option.isSome_iff_exists.mp hk
  exact (I.bs _ _ (I.ok.mod.kin _ _ e)).2
mutual
theorem RepD.reads (I : Inv X pins σ H s) (hk : (X.K.lookup sysModules).isSome = true) : ∀ {d : PyData} {v : V}, RepD X.K η H d v → okD d = true → ∀ u, RelV v u → ∃ as, Reads s.heap u (realD d) as ∧ sysModules ∉ as
  | _, _, .none, _, u, r => by cases r; exact ⟨_, .none, by simp⟩
  | _, _, .bool b, _, u, r => by cases r; exact ⟨_, .bool b, by simp⟩
  | _, _, .int i, _, u, r => by obtain ⟨t, rfl⟩ := r; exact ⟨_, .int i t, by simp⟩
  | _, _, .str x, _, u, r => by obtain ⟨t, rfl⟩ := r; exact ⟨_, .str x t, by simp⟩
  | _, _, .list h1 h2 h3, k, u, r => by
    cases r
    obtain ⟨its, rv, ⟨o, n, ho, hc, _, hd⟩, _⟩ := I.list (SqL.of h1)
    obtain ⟨as, hr, ns⟩ := RepDs.reads I hk h3 k its rv
    refine ⟨_, .list ho hc hd hr, ?_⟩
    rw [List.mem_cons, not_or]
    refine ⟨fun e => ?_, ns⟩
    rw [← e, sys_none I hk] at h1
    cases h1
  | _, _, .tuple h1 h2, k, u, r => by
    cases r
    obtain ⟨its, rv, ⟨o, ho, hc, n, hd⟩, _⟩ := I.tuple h1
    obtain ⟨as, hr, ns⟩ := RepDs.reads I hk h2 k its rv
    exact ⟨_, .tuple ho hc hd hr, ns⟩
  | _, _, .dct _ _, k, _, _ => by cases k
  | _, _, .own _ _ _, k, _, _ => by cases k
  | _, _, .ownE _ _ _ _ _ _, k, _, _ => by cases k
  | _, _, .dctE (ps := ps) h1 h2 h3 h4, k, u, r => by
    cases r
    obtain ⟨_, hsm, vs, kv, o, es, ep, ho, ex, hdt, _, hp, _⟩ := I.hok _ _ h1
    obtain ⟨rv, rk⟩ := kv_reads (h := s.heap) kv hp
    have k' : okDs (ps.map (·.2)) = true := by rw [← okKv_snd]; exact k
    obtain ⟨bs, hr, ns⟩ := RepDs.reads I hk h4 k' _ rv
    refine ⟨_, .dict (as := []) (bs := bs) ho ex.1 hdt (by rw [realKv_fst, h3]; exact rk) (by rw [realKv_snd]; exact hr), ?_⟩
    rw [List.mem_append, List.mem_singleton, not_or]
    refine ⟨fun e => ?_, ns⟩
    rw [← e, beq_self_eq_true] at hsm
    cases hsm
theorem RepDs.reads (I : Inv X pins σ H s) (hk : (X.K.lookup sysModules).isSome = true) : ∀ {d : List PyData} {v : List V}, RepDs X.K η H d v → okDs d = true → ∀ u, Vals v u → ∃ as, ReadsAll s.heap u (realDs d) as ∧ sysModules ∉ as
  | _, _, .nil, _, u, r => by cases r; exact ⟨_, .nil, by simp⟩
  | _, _, .cons h1 h2, k, u, r => by
    cases r with
    | cons r1 r2 =>
      rw [okDs, Bool.and_eq_true] at k
      obtain ⟨as, q1, n1⟩ := RepD.reads I hk h1 k.1 _ r1
      obtain ⟨bs, q2, n2⟩ := RepDs.reads I hk h2 k.2 _ r2
      exact ⟨_, .cons q1 q2, by rw [List.mem_append, not_or]; exact ⟨n1, n2⟩⟩
end
mutual
theorem asD_reads {S : Store} (I : Inv X pins σ H s) (hk : (X.K.lookup sysModules).isSome = true) (rp : Rp X.K η H S) : ∀ (w : W) (v : V) (x : PyData), asD w S = some x → okD x = true → RepW X.K η H w v → ∀ u, RelV v u → ∃ as, Reads s.heap u (realD x) as ∧ sysModules ∉ as
  | .d y, v, x, e, n, r, u, ru => by rw [asD] at e; cases e; cases r with | d r => exact RepD.reads I hk r n u ru
  | .loc l, v, x, e, n, r, u, ru => by
    rw [asD] at e
    cases r with
    | loc r =>
      cases q : S[l]? with
      | none => rw [q] at e; cases e
      | some o =>
        rw [q] at e
        cases o with
        | lst ws =>
          cases e
          obtain ⟨vs, h1, h2⟩ := rp.all _ _ _ r q
          cases ru
          obtain ⟨its, rv, ⟨o, n', ho, hc, _, hd⟩, _⟩ := I.list (SqL.of h1)
          obtain ⟨as, hr, ns⟩ := RepDs.reads I hk h2 n its rv
          refine ⟨_, .list ho hc hd hr, ?_⟩
          rw [List.mem_cons, not_or]
          refine ⟨fun e => ?_, ns⟩
          rw [← e, sys_none I hk] at h1
          cases h1
        | dK _ => cases e
        | dT _ => cases e
        | ob _ _ => cases e
  | .tp ws, v, x, e, n, r, u, ru => by
    rw [asD] at e
    cases r with
    | tp h1 h2 =>
      cases q : asDs ws S with
      | none => rw [q] at e; cases e
      | some ds =>
        rw [q] at e
        cases e
        cases ru
        obtain ⟨its, rv, ⟨o, ho, hc, n', hd⟩, _⟩ := I.tuple h1
        obtain ⟨as, hr, ns⟩ := asDs_reads I hk rp ws _ ds q n h2 _ rv
        exact ⟨_, .tuple ho hc hd hr, ns⟩
  | .fro _, v, x, e, n, r, u, ru => by rw [asD] at e; cases e
theorem asDs_reads {S : Store} (I : Inv X pins σ H s) (hk : (X.K.lookup sysModules).isSome = true) (rp : Rp X.K η H S) : ∀ (ws : List W) (vs : List V) (xs : List PyData), asDs ws S = some xs → okDs xs = true → RepWs X.K η H ws vs → ∀ u, Vals vs u → ∃ as, ReadsAll s.heap u (realDs xs) as ∧ sysModules ∉ as
  | [], vs, xs, e, n, r, u, ru => by rw [asDs] at e; cases e; cases r; cases ru; exact ⟨_, .nil, by simp⟩
  | w :: ws, vs, xs, e, n, r, u, ru => by
    rw [asDs] at e
    cases r with
    | cons r1 r2 =>
      cases ru with
      | cons u1 u2 =>
        split at e
        · rename_i d ds e1 e2
          cases e
          rw [okDs, Bool.and_eq_true] at n
          obtain ⟨as, q1, n1⟩ := asD_reads I hk rp w _ d e1 n.1 r1 _ u1
          obtain ⟨bs, q2, n2⟩ := asDs_reads I hk rp ws _ ds e2 n.2 r2 _ u2
          exact ⟨_, .cons q1 q2, by rw [List.mem_append, not_or]; exact ⟨n1, n2⟩⟩
        · cases e
end
end
section
variable {X : Cx} {ct : Nat → Option Addr} {E : EX}
/-- repr of data with dicts -/
def gReprG (ws : List W) (S : Store) : O := match ws with
  | [w] => match asD w S with
    | some d => if okD d = true ∧ (realD d).showable = true ∧ (realD d).depth ≤ 64 ∧ (realD d).shown.length ≤ lim then some (.d (.str (realD d).shown), S) else none
    | none => none
  | _ => none
theorem c_reprG (hk : (X.K.lookup sysModules).isSome = true) (hg : X.A.guards = some []) (hu : X.A.units + 65 < cLine) : CallR X (.builtin "repr") (SimL X ct gReprG) := by
  intro pins s σ H xs us Q I rv ⟨η, S, ws, rp, rr, q⟩
  unfold gReprG at q
  split at q
  · obtain ⟨v, rfl, r⟩ := repWs1 rr
    obtain ⟨u, rfl, ru⟩ := vals1 rv
    split at q
    · rename_i d e
      split at q
      · rename_i hz
        obtain ⟨hok, hs, hdp, hz⟩ := hz
        have q' : Q (.str (realD d).shown) H := same_val rp (.d (.str _)) q
        obtain ⟨as, rd, ns⟩ := asD_reads I hk rp _ _ _ e hok r u ru
        revert rd hs hdp hz q'
        generalize realD d = d'
        intro hs hdp hz q' rd
        rcases isRef_of rd with ⟨a, rfl⟩ | ⟨rfl, rfl⟩ | ⟨b, rfl, rfl⟩ | ⟨i, t, rfl, rfl⟩ | ⟨x, t, rfl, rfl⟩
        · exact repr_of_reads' rd hs (fun _ => ns) hg (by omega) (fun _ _ e => e) (fun h' u tk hk => ⟨.str d'.shown, H, I.kept hk, ⟨_, rfl⟩, q'⟩) (lim_ok hz)
        · exact PySem.P.repr_of_none ⟨.str (PyData.shown .none), H, I.tok _, ⟨_, rfl⟩, q'⟩
        · exact PySem.P.repr_of_bool ⟨.str (PyData.shown (.bool b)), H, I.tok _, ⟨_, by cases b <;> rfl⟩, q'⟩
        · exact PySem.P.repr_of_int (of_decide_eq_true hs) ⟨.str (PyData.shown (.int i)), H, I.tok _, ⟨_, rfl⟩, q'⟩
        · exact PySem.P.repr_of_str ⟨.str (PyData.shown (.str x)), H, I.tok _, ⟨_, rfl⟩, q'⟩ (lim_ok hz)
      · exact q.elim
    · exact q.elim
  · exact q.elim
theorem call_reprExc (hu : X.A.units + 65 < cLine) : CallR X (.builtin "repr") (fun xs H Q => ∃ (a C t1 dx : Addr) (nm : Str) (i : Int), xs = [.ref a] ∧ H a = some (exoT a C (some dx) t1) ∧ H t1 = some (.tup [.int i]) ∧ OwnE X.K C nm ∧ i.natAbs.log2 < 1920 ∧ (excText nm i).length ≤ sizeLine ∧ Q (.str (excText nm i)) H) := by
  intro pins s σ H xs us Q I rv hq
  obtain ⟨a, C, t1, dx, nm, i, rfl, ha, ht, O, hi, hl, q⟩ := hq
  obtain ⟨u, rfl, ru⟩ := vals1 rv
  cases (show u = Value.ref a from ru)
  obtain ⟨_, its, vi, ot, hot, hcl, k, hdt⟩ := I.hok t1 _ ht
  obtain ⟨v, rfl, rv1⟩ := vals1 vi
  obtain ⟨it, rfl⟩ := (show ∃ t, v = Value.int i t from rv1)
  exact wp_repr_own (it := it) I.kIn O (exoT_at I.hok ha) hot hdt hi hl (by omega) fun u tk => ⟨.str _, H, I.tok _, ⟨_, rfl⟩, q⟩
def gReprX (ws : List W) (S : Store) : O := match ws with
  | [.d (.dict [(.bool false, .str nm), (.none, .int i)])] => if i.natAbs.log2 < 1920 ∧ (excText nm i).length ≤ lim then some (.d (.str (excText nm i)), S) else none
  | _ => none
theorem c_reprX (hu : X.A.units + 65 < cLine) : CallR X (.builtin "repr") (SimL X ct gReprX) := CallR.fit (call_reprExc hu) fun xs H Q ⟨η, S, ws, rp, rr, q⟩ => by
  unfold gReprX at q
  split at q
  · rename_i nm i
    obtain ⟨v, rfl, r⟩ := repWs1 rr
    split at q
    · rename_i hz
      cases r with
      | d r =>
        cases r with
        | ownE g1 g2 g3 g4 g5 g6 => exact ⟨_, _, _, _, _, _, rfl, g1, g2, g6, hz.1, lim_ok hz.2, same_val rp (.d (.str _)) q⟩
    · exact q.elim
  · exact q.elim
def orO (a b : O) : O := match a with
  | some x => some x
  | none => b
theorem CallR.orO {f : Value} {g g' : List W → Store → O} (h : CallR X f (SimL X ct g)) (h' : CallR X f (SimL X ct g')) : CallR X f (SimL X ct fun ws S => VI.orO (g ws S) (g' ws S)) := CallR.fit (CallR.or h h') fun xs H Q ⟨η, S, ws, rp, rr, q⟩ => by
  cases e : g ws S with
  | some o => exact .inl ⟨η, S, ws, rp, rr, by rw [e]; simp only [e, VI.orO] at q; exact q⟩
  | none => exact .inr ⟨η, S, ws, rp, rr, by simp only [e, VI.orO] at q; exact q⟩
def gReprA (ws : List W) (S : Store) : O := orO (gRepr ws S) (orO (gReprX ws S) (gReprG ws S))
theorem c_reprA (hk : (X.K.lookup sysModules).isSome = true) (hg : X.A.guards = some []) (hu : X.A.units + 65 < cLine) : CallR X (.builtin "repr") (SimL X ct gReprA) := CallR.orO (c_repr hg hu) (CallR.orO (c_reprX hu) (c_reprG hk hg hu))
/-! made -/
theorem i_dct0E {pos : Pos} : PE X (.Dict [] [] pos) (tF (gx X ct) E (fC (.dict [(.bool true, .none)]))) := PEw pe_dnewK fun σ H Q ⟨η, ρ, S, rp, er, h⟩ p hp =>
  h η _ _ (fu_new hp) (rp.new hp) (.d (.dctE (ps := []) upd_same (rp.notin hp) rfl .nil))
theorem i_dct1E {i j : Int} {k1 k2 : Nat} {pos p1 p2 : Pos} : PE X (.Dict [some (.Constant (.int i) k1 p1)] [.Constant (.int j) k2 p2] pos) (tF (gx X ct) E (fC (.dict [(.bool true, .none), (.int i, .int j)]))) :=
  PEw (pe_disp (pps_cons pe_int pe_int pps_nil) rfl rfl (by simp) (by simp)) fun σ H Q ⟨η, ρ, S, rp, er, h⟩ p hp => by
    refine ⟨upd_same, [(.inl i, .int j)], rfl, by simp, ?_⟩
    rw [upd_upd]
    exact h η _ _ (fu_new hp) (rp.new hp) (.d (.dctE (ps := [(.int i, .int j)]) upd_same (rp.notin hp) rfl (.cons (.int j) .nil)))
def KMake1 (P : Program) (w : World) (K : PySem.W.Frag) (mg : Str → Option Value) (base : Heap) (x nm : Str) : Prop := ∃ C f, OwnX1 P w K mg base 1 x C f ∧ OwnE K C nm
theorem i_own1 {x nm : Str} {i : Int} {k1 : Nat} {p p2 pos : Pos} (O : KMake1 X.prog X.w X.K X.mg X.base x nm) (hr : Room 2 X.A) (hg : Gl X x := by rfl) (hdb : (x == ("__debug__" : Str)) = false := by decide) (he : starEach [.Constant (.int i) k1 p2] X.env = (false, eval (.Constant (.int i) k1 p2) X.env) :: starEach [] X.env := by rfl) (hpl : (backTo pos (starEach [] X.env)).any (·.1) = false := by rfl) :
    PE X (.Call (.Name x p) [.Constant (.int i) k1 p2] [] pos) (tF (gx X ct) E (fC (.dict [(.bool false, .str nm), (.none, .int i)]))) := by
  obtain ⟨C, f, O, OE⟩ := O
  refine PEw (pe_own1 O hr (pa_cons pe_int pa_nil he) hg hdb he hpl) fun σ H Q ⟨η, ρ, S, rp, er, h⟩ => ?_
  refine ⟨.int i, rfl, fun a t1 dx ha ht hd n1 n2 n3 => ?_⟩
  have e : upd (upd (upd (upd H t1 (.tup [.int i])) a (exoT a C none t1)) dx (exd dx [(f, .int i)])) a (exoT a C (some dx) t1) = upd (upd (upd H t1 (.tup [.int i])) dx (exd dx [(f, .int i)])) a (exoT a C (some dx) t1) := by
    funext b
    by_cases h1 : b = a
    · subst h1; rw [upd_same, upd_same]
    · rw [upd_ne h1, upd_ne h1]
      by_cases h2 : b = dx
      · subst h2; rw [upd_same, upd_same]
      · rw [upd_ne h2, upd_ne h2, upd_ne h1]
  rw [e]
  have hd1 : upd H t1 (.tup [.int i]) dx = none := by rw [upd_ne n3]; exact hd
  have ha2 : upd (upd H t1 (.tup [.int i])) dx (exd dx [(f, .int i)]) a = none := by rw [upd_ne (Ne.symm n2), upd_ne n1]; exact ha
  have f1 := fu_new (η := η) (o := HO.tup [.int i]) ht
  have f2 := fu_new (η := η) (o := exd dx [(f, .int i)]) hd1
  have f3 := fu_new (η := η) (o := exoT a C (some dx) t1) ha2
  have rp1 := rp.new (o := HO.tup [.int i]) ht
  have rp2 := rp1.new (o := exd dx [(f, .int i)]) hd1
  have rp3 := rp2.new (o := exoT a C (some dx) t1) ha2
  refine h η _ _ ((f1.trans f2).trans f3) rp3 (.d (.ownE (f := f) upd_same ?_ ?_ (rp.notin ha) (rp.notin hd) OE))
  · rw [upd_ne (Ne.symm n1), upd_ne (Ne.symm n3), upd_same]
  · rw [upd_ne n2, upd_same]
end
end VI
set_option Elab.async false
set_option linter.all false
set_option maxRecDepth 100000
namespace VI
open PySem PySem.Spec PyProof.Rows L2

/-! an own class with one field, whose arguments are kept, from the head's facts -/
def oeB (K : PySem.W.Frag) (C : Addr) (nm : Str) : Bool :=
  otB K C && (decide (PySem.W.findIn K (.ref C) "__repr__" = some (some (.builtin "BaseException.__repr__"))) && ((match PySem.W.clsIn K C with
  | some cd => decide (Str.ofString ((cd.name.toString.cutAt '.').getLastD "") = nm)
  | none => false) && decide (nm.length ≤ 1000)))
theorem oeB_ok {K : PySem.W.Frag} {C : Addr} {nm : Str} (h : oeB K C nm = true) : OwnE K C nm := by
  obtain ⟨h1, h⟩ := He.ba h
  obtain ⟨h2, h⟩ := He.ba h
  obtain ⟨h3, h⟩ := He.ba h
  refine ⟨otB_ok h1, of_decide_eq_true h2, ?_, of_decide_eq_true h⟩
  cases q : PySem.W.clsIn K C with
  | none => rw [q] at h3; cases h3
  | some cd => rw [q] at h3; exact ⟨cd, rfl, of_decide_eq_true h3⟩
section
variable {K : PySem.W.Frag} {h : Heap} {mg : Str → Option Value} {P : Program} {w : World} {base : Heap}
theorem ownE_of {x nm qual f1 p1 : Str} {pr : Arguments} {body : List Stmt} {sc : Scope} (X : K.In h) (G : h.Ns mainGlobals mg) (c : (He.Fa.glo x).ok K = true) (T : oexB K (He.ga K x) = true) (oe : oeB K (He.ga K x) nm = true) (m : (He.Fa.meth x "__init__").ok K = true) (ty : decide (PySem.W.typeIn K (.ref (He.ma K (He.ga K x) "__init__")) = some (.type "function")) = true)
    (n1 : (He.Fa.noat x f1).ok K = true) (F : ∃ fd, FunD K "__init__" qual pr body sc [] [] (He.ma K (He.ga K x) "__init__") fd) (hS : FnScope ["self", p1] ["self", p1] sc)
    (hB : ∀ (kV doc pm : Value) (an : Option Addr) (cdv ct : Value) (us : List Value), us.length = 2 → bindArgs (PySem.W.fnOf "__init__" qual pr body sc .none kV doc pm an cdv ct) ⟨us, []⟩ = pure ((["self", p1] : List Str).zip us))
    (hb : ∀ (cdv : Value) (A : Around) (outer : List Env) (s : Shared) (H : Hp) (E : XK), PSs (cxOf CX0 P w K mg base ["self", p1] qual sc (He.ma K (He.ga K x) "__init__") cdv A outer s H E) body (tOstT K f1 (tVar 0) (tVar 1))) : KMake1 P w K mg base x nm := by
  obtain ⟨fd, F⟩ := F
  exact ⟨_, f1, ⟨He.glo_ok X G c, oexB_ok T, _, fd, _, (He.meth_ok m).at_, of_decide_eq_true ty, init_oneT (k := 0) F hS (oexB_ok T) (He.noat_ok n1) hb, F.bindsN hB⟩, oeB_ok oe⟩
end
end VI
set_option Elab.async false
set_option linter.all false
set_option maxRecDepth 100000
namespace VI
open PySem PySem.Spec PyProof.Rows L2

/-! live dicts whose keys are ints or texts -/
def keyW : W → Option Key
  | .d (.int i) => some (.inl i)
  | .d (.str x) => some (.inr x)
  | _ => none
theorem keyW_ok {K : PySem.W.Frag} {η : List Addr} {H : Hp} {w : W} {v : V} {k : Key} (e : keyW w = some k) (r : RepW K η H w v) : v = kV k := by
  unfold keyW at e
  split at e
  · cases e; cases r with | d r => cases r; rfl
  · cases e; cases r with | d r => cases r; rfl
  · cases e
def valD (kvs : List (Key × PyData)) (k : Key) : Option PyData := (kvs.find? fun p => decide (p.1 = k)).map (·.2)
theorem val_rep {K : PySem.W.Frag} {η : List Addr} {H : Hp} (k : Key) : ∀ {kvs : List (Key × PyData)} {vs : List (Key × V)}, kvs.map (·.1) = vs.map (·.1) → RepDs K η H (kvs.map (·.2)) (vs.map (·.2)) →
    (valD kvs k = none ∧ valV vs k = none) ∨ ∃ d v, valD kvs k = some d ∧ valV vs k = some v ∧ RepD K η H d v
  | [], [], _, _ => .inl ⟨rfl, rfl⟩
  | [], _ :: _, e, _ => by cases e
  | _ :: _, [], e, _ => by cases e
  | p :: kvs, q :: vs, e, r => by
    rw [List.map_cons, List.map_cons] at e r
    cases r with
    | cons r1 r2 =>
      have e1 := (List.cons.inj e).1
      have e2 := (List.cons.inj e).2
      unfold valD valV
      rw [List.find?_cons, List.find?_cons]
      by_cases h : p.1 = k
      · rw [decide_eq_true h, decide_eq_true (e1 ▸ h)]
        exact .inr ⟨_, _, rfl, rfl, r1⟩
      · rw [decide_eq_false h, decide_eq_false (e1 ▸ h)]
        exact val_rep k e2 r2
/-- the pairs of a dict that is data -/
def decKv : List (PyData × PyData) → Option (List (Key × PyData))
  | [] => some []
  | (.int i, v) :: r => (decKv r).map ((.inl i, v) :: ·)
  | (.str x, v) :: r => (decKv r).map ((.inr x, v) :: ·)
  | _ :: _ => none
theorem decKv_ok : ∀ {ps : List (PyData × PyData)} {ks : List Key}, ps.map (·.1) = ks.map keyD → ∃ kvs, decKv ps = some kvs ∧ kvs.map (·.1) = ks ∧ kvs.map (·.2) = ps.map (·.2)
  | [], [], _ => ⟨[], rfl, rfl, rfl⟩
  | [], _ :: _, e => by cases e
  | _ :: _, [], e => by cases e
  | (a, v) :: ps, k :: ks, e => by
    rw [List.map_cons, List.map_cons] at e
    obtain ⟨kvs, h1, h2, h3⟩ := decKv_ok (List.cons.inj e).2
    have e1 : a = keyD k := (List.cons.inj e).1
    subst e1
    cases k with
    | inl i => exact ⟨(.inl i, v) :: kvs, by show (decKv ps).map _ = _; rw [h1]; rfl, by rw [List.map_cons, h2], by rw [List.map_cons, List.map_cons, h3]⟩
    | inr x => exact ⟨(.inr x, v) :: kvs, by show (decKv ps).map _ = _; rw [h1]; rfl, by rw [List.map_cons, h2], by rw [List.map_cons, List.map_cons, h3]⟩
theorem decKv_enc : ∀ kvs : List (Key × PyData), decKv (kvs.map fun p => (keyD p.1, p.2)) = some kvs
  | [] => rfl
  | (.inl i, v) :: r => by
    rw [List.map_cons]
    show (decKv (r.map _)).map _ = _
    rw [decKv_enc r]; rfl
  | (.inr x, v) :: r => by
    rw [List.map_cons]
    show (decKv (r.map _)).map _ = _
    rw [decKv_enc r]; rfl
/-- a dict, live or data -/
def asDk (w : W) (S : Store) : Option (List (Key × PyData)) := match w with
  | .loc l => match S[l]? with
    | some (.dK kvs) => some kvs
    | _ => none
  | .d (.dict ((.bool true, .none) :: ps)) => decKv ps
  | _ => none
theorem asDk_ok {K : PySem.W.Frag} {η : List Addr} {H : Hp} {S : Store} {w : W} {v : V} {kvs : List (Key × PyData)} (e : asDk w S = some kvs) (rp : Rp K η H S) (r : RepW K η H w v) : ∃ a vs, v = .ref a ∧ H a = some (.dK vs) ∧ kvs.map (·.1) = vs.map (·.1) ∧ RepDs K η H (kvs.map (·.2)) (vs.map (·.2)) := by
  unfold asDk at e
  split at e
  · rename_i l
    split at e
    · rename_i kvs' q
      cases e
      cases r with
      | loc r =>
        obtain ⟨vs, h1, h2, h3⟩ := rp.all _ _ _ r q
        exact ⟨_, vs, rfl, h1, h2, h3⟩
    · cases e
  · rename_i ps
    cases r with
    | d r =>
      cases r with
      | dctE h1 h2 h3 h4 =>
        rename_i vs
        obtain ⟨kvs', g1, g2, g3⟩ := decKv_ok (ks := vs.map (·.1)) (by rw [h3, List.map_map]; rfl)
        rw [g1] at e
        cases e
        exact ⟨_, vs, rfl, h1, g2, by rw [g3]; exact h4⟩
  · cases e
section
variable {X : Cx} {ct : Nat → Option Addr} {E : EX}
/-- {} that goes on -/
def fDnew : FE := fun _ S => .ok (.loc S.length) (S ++ [.dK []])
theorem new_dict {K : PySem.W.Frag} {η : List Addr} {H : Hp} {S : Store} {Q : VK} (rp : Rp K η H S) (h : FinO ⟨K, ct⟩ η H (some (.loc S.length, S ++ [.dK []])) Q) : ∀ p, H p = none → Q (.ref p) (upd H p (.dK [])) := fun p hp =>
  h (η ++ [p]) _ _ (fu_live hp) (rp.live hp ⟨[], upd_same, rfl, .nil⟩) (.loc (by rw [← rp.len]; simp))
theorem i_dnewL {pos : Pos} : PE X (.Dict [] [] pos) (tF (gx X ct) E fDnew) := PEw pe_dnewK fun σ H Q ⟨η, ρ, S, rp, er, h⟩ p hp => new_dict (ct := ct) rp h p hp
/-- d[k], k being there -/
def gDget (a b : W) (S : Store) : O := match asDk a S, keyW b with
  | some kvs, some k => (valD kvs k).map fun d => (.d d, S)
  | _, _ => none
/-- k in d -/
def gDin (b a : W) (S : Store) : O := match asDk a S, keyW b with
  | some kvs, some k => some (.d (.bool (valD kvs k).isSome), S)
  | _, _ => none
theorem dict_at {K : PySem.W.Frag} {η : List Addr} {H : Hp} {S : Store} {l : Nat} {v : V} {kvs : List (Key × PyData)} (q : S[l]? = some (.dK kvs)) (rp : Rp K η H S) (r : RepW K η H (.loc l) v) : ∃ a vs, v = .ref a ∧ η[l]? = some a ∧ H a = some (.dK vs) ∧ kvs.map (·.1) = vs.map (·.1) ∧ RepDs K η H (kvs.map (·.2)) (vs.map (·.2)) := by
  cases r with
  | loc r =>
    obtain ⟨vs, h1, h2, h3⟩ := rp.all _ _ _ r q
    exact ⟨_, vs, rfl, r, h1, h2, h3⟩
theorem i_dgetL {a b : Expr} {fa fb : FE} {pos : Pos} (hu : X.A.units + 1 < cLine) (ha : PE X a (tF (gx X ct) E fa)) (hb : PE X b (tF (gx X ct) E fb)) (hn : NoSl b := by intro _ _ _ _; simp) : PE X (.Subscript a b pos) (tF (gx X ct) E (f2 gDget fa fb)) :=
  PEw (pe_dget hu ha hb hn) fun σ H Q ⟨η, ρ, S, rp, er, h⟩ => ⟨η, ρ, S, rp, er, FinR.mono (FinR.bind (rel := relW (gx X ct)) h) fun x H1 ⟨η1, wx, S1, f1, rp1, r1, h1⟩ =>
    ⟨η1, ρ, S1, rp1, er.fu f1, FinR.mono (FinR.bind (rel := relW (gx X ct)) h1) fun y H2 ⟨η2, wy, S2, f2, rp2, r2, h2⟩ => by
      have h3 : FinP (gx X ct) (E σ) η2 H2 (lift (gDget wx wy S2)) Q := h2
      unfold gDget at h3
      split at h3
      · rename_i kvs k q hk
        obtain ⟨ad, vs, rfl, hd, e1, e2⟩ := asDk_ok q rp2 (RepW.fu f2 _ _ r1)
        rcases val_rep k e1 e2 with ⟨n1, n2⟩ | ⟨d, v, n1, n2, n3⟩
        · rw [n1] at h3; exact h3.elim
        · rw [n1] at h3
          exact ⟨ad, v, rfl, .inl ⟨vs, k, .inl hd, keyW_ok hk r2, n2.symm⟩, h3 η2 H2 _ (Fu.refl _ _) rp2 (.d n3)⟩
      · exact h3.elim⟩⟩
theorem op_inD (hu : X.A.units + 1 < cLine) : OpR X (compareOp .In) (fun x y H Q => ∃ a o, y = .ref a ∧ DGet H a x o ∧ Q (.bl o.isSome) H) := by
  intro pins s σ H x y u v Q I rx ry h
  obtain ⟨a, o, rfl, g, q⟩ := h
  cases (show v = Value.ref a from ry)
  exact d_in hu I g rx fun s' I' => ⟨.bl _, H, I', rfl, q⟩
theorem sim_inD (hu : X.A.units + 1 < cLine) : OpR X (compareOp .In) (Sim2 X ct gDin) := OpR.fit (op_inD hu) fun x y H Q ⟨η, S, wx, wy, rp, rx, ry, h⟩ => by
  unfold gDin at h
  split at h
  · rename_i kvs k q hk
    obtain ⟨ad, vs, rfl, hd, e1, e2⟩ := asDk_ok q rp ry
    rcases val_rep k e1 e2 with ⟨n1, n2⟩ | ⟨d, v, n1, n2, n3⟩
    · rw [n1] at h
      exact ⟨ad, none, rfl, .inl ⟨vs, k, .inl hd, keyW_ok hk rx, n2.symm⟩, same_val rp (.d (.bool _)) h⟩
    · rw [n1] at h
      exact ⟨ad, some v, rfl, .inl ⟨vs, k, .inl hd, keyW_ok hk rx, n2.symm⟩, same_val rp (.d (.bool _)) h⟩
  · exact h.elim
/-- in, of dicts too -/
def gInD (a b : W) (S : Store) : O := match gDin a b S with
  | some o => some o
  | none => gInA a b S
theorem sim_inDA (hu : X.A.units + 1 < cLine) : OpR X (compareOp .In) (Sim2 X ct gInD) := OpR.orElse (sim_inD hu) sim_inA
end
def putD (kvs : List (Key × PyData)) (k : Key) (v : PyData) : List (Key × PyData) :=
  if (kvs.any fun p => decide (p.1 = k)) = true then kvs.map fun p => if p.1 = k then (p.1, v) else p else kvs ++ [(k, v)]
section
variable {K : PySem.W.Frag} {η : List Addr} {H : Hp} {k : Key} {d : PyData} {v : V}
theorem any_rep : ∀ {kvs : List (Key × PyData)} {vs : List (Key × V)}, kvs.map (·.1) = vs.map (·.1) → (kvs.any fun p => decide (p.1 = k)) = vs.any fun p => decide (p.1 = k)
  | [], [], _ => rfl
  | [], _ :: _, e => by cases e
  | _ :: _, [], e => by cases e
  | p :: kvs, q :: vs, e => by
    rw [List.map_cons, List.map_cons] at e
    rw [List.any_cons, List.any_cons, any_rep (List.cons.inj e).2, (List.cons.inj e).1]
theorem map_rep (rv : RepD K η H d v) : ∀ {kvs : List (Key × PyData)} {vs : List (Key × V)}, kvs.map (·.1) = vs.map (·.1) → RepDs K η H (kvs.map (·.2)) (vs.map (·.2)) →
    ((kvs.map fun p => if p.1 = k then (p.1, d) else p).map (·.1) = (vs.map fun p => if p.1 = k then (p.1, v) else p).map (·.1)) ∧ RepDs K η H ((kvs.map fun p => if p.1 = k then (p.1, d) else p).map (·.2)) ((vs.map fun p => if p.1 = k then (p.1, v) else p).map (·.2))
  | [], [], _, _ => ⟨rfl, .nil⟩
  | [], _ :: _, e, _ => by cases e
  | _ :: _, [], e, _ => by cases e
  | p :: kvs, q :: vs, e, r => by
    rw [List.map_cons, List.map_cons] at e r
    cases r with
    | cons r1 r2 =>
      have e1 := (List.cons.inj e).1
      obtain ⟨i1, i2⟩ := map_rep rv (List.cons.inj e).2 r2
      simp only [List.map_cons]
      by_cases h : p.1 = k
      · rw [if_pos h, if_pos (e1 ▸ h)]
        exact ⟨by rw [e1, i1], .cons rv i2⟩
      · rw [if_neg h, if_neg (e1 ▸ h)]
        exact ⟨by rw [e1, i1], .cons r1 i2⟩
theorem put_rep (rv : RepD K η H d v) {kvs : List (Key × PyData)} {vs : List (Key × V)} (e : kvs.map (·.1) = vs.map (·.1)) (r : RepDs K η H (kvs.map (·.2)) (vs.map (·.2))) : (putD kvs k d).map (·.1) = (putK vs k v).map (·.1) ∧ RepDs K η H ((putD kvs k d).map (·.2)) ((putK vs k v).map (·.2)) := by
  unfold putD putK
  rw [any_rep e]
  split
  · exact map_rep rv e r
  · rw [List.map_append, List.map_append, List.map_append, List.map_append]
    exact ⟨by rw [e]; rfl, r.append (.cons rv .nil)⟩
end
section
variable {X : Cx} {ct : Nat → Option Addr} {E : EX}
/-- d[k] = v -/
def fDput (fv fd fk : FE) : FS := fun ρ S => toS ρ (fv ρ S) fun v S1 => toS ρ (fd ρ S1) fun d S2 => toS ρ (fk ρ S2) fun k S3 => match d, keyW k, v with
  | .loc l, some key, .d x => match S3[l]? with
    | some (.dK kvs) => if kvs.length < lim then .next ρ (S3.set l (.dK (putD kvs key x))) else .bad
    | _ => .bad
  | _, _, _ => .bad
theorem s_dput {o i e : Expr} {pos pos' : Pos} {fo fi fe : FE} (hu : X.A.units + 1 < cLine) (he : PE X e (tF (gx X ct) E fe)) (ho : PE X o (tF (gx X ct) E fo)) (hi : PE X i (tF (gx X ct) E fi)) (hs : swapsWith e (some (o.Subscript i pos')) pos.line X.env = pure false := by rfl) :
    PS X (.Assign [o.Subscript i pos'] e pos) (tS (gx X ct) E (fDput fe fo fi)) := PSw (ps_dput hu ho hi he hs) fun D σ H ⟨η, ρ, S, rp, er, h⟩ =>
  ⟨η, ρ, S, rp, er, FinR.mono (FinS.bind er h) fun v H1 ⟨η1, w, S1, f1, rp1, r1, h1⟩ =>
    ⟨η1, ρ, S1, rp1, er.fu f1, FinR.mono (FinS.bind (er.fu f1) h1) fun x H2 ⟨η2, wd, S2, f2, rp2, r2, h2⟩ =>
      ⟨η2, ρ, S2, rp2, (er.fu f1).fu f2, FinR.mono (FinS.bind ((er.fu f1).fu f2) h2) fun y H3 ⟨η3, wk, S3, f3, rp3, r3, h3⟩ => by
        have er3 := ((er.fu f1).fu f2).fu f3
        have rw_ := RepW.fu f3 _ _ (RepW.fu f2 _ _ r1)
        have rd := RepW.fu f3 _ _ r2
        split at h3
        · rename_i l key d hk _ _
          cases q : S3[l]? with
          | none => simp only [q] at h3; exact h3.elim
          | some so =>
            cases so with
            | dK kvs =>
              simp only [q] at h3
              split at h3
              · rename_i hl
                obtain ⟨ad, vs, rfl, hη, hd, e1, e2⟩ := dict_at q rp3 rd
                cases rw_ with
                | d rv =>
                  have m : ad ∈ η3 := List.mem_of_getElem? hη
                  obtain ⟨u, hu2, mu⟩ := rp3.there m
                  have f : Fu η3 H3 η3 (upd H3 ad (.dK (putK vs key v))) := fu_write m hu2 mu
                  obtain ⟨p1, p2⟩ := put_rep (k := key) rv e1 e2
                  have hlen : vs.length < sizeLine := by
                    have z : kvs.length = vs.length := by rw [← List.length_map (f := (·.1)), e1, List.length_map]
                    rw [← z]
                    rw [sizeLine_eq]
                    exact hl
                  refine ⟨ad, _, rfl, .inl ⟨vs, key, hd, keyW_ok hk r3, hlen, rfl⟩, ?_⟩
                  exact h3 η3 _ σ f (rp3.write hη ⟨_, upd_same, p1, RepDs.fu f _ _ p2⟩) (er3.fu f)
              · exact h3.elim
            | lst _ => simp only [q] at h3; exact h3.elim
            | dT _ => simp only [q] at h3; exact h3.elim
            | ob _ _ => simp only [q] at h3; exact h3.elim
        · exact h3.elim⟩⟩⟩
theorem op_notInD (hu : X.A.units + 1 < cLine) : OpR X (compareOp .NotIn) (fun x y H Q => ∃ a o, y = .ref a ∧ DGet H a x o ∧ Q (.bl (!o.isSome)) H) := by
  intro pins s σ H x y u v Q I rx ry h
  obtain ⟨a, o, rfl, g, q⟩ := h
  cases (show v = Value.ref a from ry)
  exact d_notIn hu I g rx fun s' I' => ⟨.bl _, H, I', rfl, q⟩
def gNotInD0 (b a : W) (S : Store) : O := match asDk a S, keyW b with
  | some kvs, some k => some (.d (.bool (!(valD kvs k).isSome)), S)
  | _, _ => none
theorem sim_notInD0 (hu : X.A.units + 1 < cLine) : OpR X (compareOp .NotIn) (Sim2 X ct gNotInD0) := OpR.fit (op_notInD hu) fun x y H Q ⟨η, S, wx, wy, rp, rx, ry, h⟩ => by
  unfold gNotInD0 at h
  split at h
  · rename_i kvs k q hk
    obtain ⟨ad, vs, rfl, hd, e1, e2⟩ := asDk_ok q rp ry
    rcases val_rep k e1 e2 with ⟨n1, n2⟩ | ⟨d, v, n1, n2, n3⟩
    · rw [n1] at h
      exact ⟨ad, none, rfl, .inl ⟨vs, k, .inl hd, keyW_ok hk rx, n2.symm⟩, same_val rp (.d (.bool _)) h⟩
    · rw [n1] at h
      exact ⟨ad, some v, rfl, .inl ⟨vs, k, .inl hd, keyW_ok hk rx, n2.symm⟩, same_val rp (.d (.bool _)) h⟩
  · exact h.elim
def gNotInD (a b : W) (S : Store) : O := match gNotInD0 a b S with
  | some o => some o
  | none => gIn true a b S
theorem sim_notInDA (hu : X.A.units + 1 < cLine) : OpR X (compareOp .NotIn) (Sim2 X ct gNotInD) := OpR.orElse (sim_notInD0 hu) sim_notIn
theorem call_lenD : CallR X (.builtin "len") (fun xs H Q => ∃ (a : Addr) (kvs : List (Key × V)), xs = [.ref a] ∧ H a = some (.dK kvs) ∧ Q (.int (kvs.length : Int)) H) := by
  intro pins s σ H xs us Q I r h
  obtain ⟨a, kvs, rfl, hd, q⟩ := h
  obtain ⟨u, rfl, ru⟩ := vals1 r
  cases (show u = Value.ref a from ru)
  exact d_len I (.inl hd) fun t s' I' => ⟨.int _, H, I', ⟨_, rfl⟩, q⟩
def gLenD (ws : List W) (S : Store) : O := match ws with
  | [w] => match asDk w S with
    | some kvs => some (.d (.int (kvs.length : Int)), S)
    | none => gLen [w] S
  | ws => gLen ws S
theorem c_lenD : CallR X (.builtin "len") (SimL X ct gLenD) := CallR.fit (CallR.or c_len call_lenD) fun xs H Q ⟨η, S, ws, rp, rr, q⟩ => by
  unfold gLenD at q
  split at q
  · rename_i w
    split at q
    · rename_i kvs e
      obtain ⟨v, rfl, r⟩ := repWs1 rr
      obtain ⟨ad, vs, rfl, hd, e1, e2⟩ := asDk_ok e rp r
      have z : kvs.length = vs.length := by rw [← List.length_map (f := (·.1)), e1, List.length_map]
      rw [z] at q
      exact .inr ⟨ad, vs, rfl, hd, same_val rp (.d (.int _)) q⟩
    · exact .inl ⟨η, S, _, rp, rr, q⟩
  · exact .inl ⟨η, S, _, rp, rr, q⟩
end
end VI
set_option Elab.async false
set_option linter.all false
set_option maxRecDepth 100000
namespace VI
open PySem PySem.Spec PyProof.Rows L2

/-! instances of own classes -/
abbrev KCls (K : PySem.W.Frag) (nm : Str) : Prop := L2.Cls K (He.ga K nm)
abbrev KFld (K : PySem.W.Frag) (nm f : Str) : Prop := L2.NoAttr K (He.ga K nm) f
theorem look_rep {K : PySem.W.Frag} {η : List Addr} {H : Hp} (f : Str) : ∀ {fs : List (Str × W)} {vs : List (Str × V)}, fs.map (·.1) = vs.map (·.1) → RepWs K η H (fs.map (·.2)) (vs.map (·.2)) →
    (fs.lookup f = none ∧ vs.lookup f = none) ∨ ∃ w v, fs.lookup f = some w ∧ vs.lookup f = some v ∧ RepW K η H w v
  | [], [], _, _ => .inl ⟨rfl, rfl⟩
  | [], _ :: _, e, _ => by cases e
  | _ :: _, [], e, _ => by cases e
  | (a, w) :: fs, (b, v) :: vs, e, r => by
    rw [List.map_cons, List.map_cons] at e r
    cases r with
    | cons r1 r2 =>
      have e1 : a = b := (List.cons.inj e).1
      subst e1
      rw [List.lookup_cons, List.lookup_cons]
      cases h : f == a with
      | true => exact .inr ⟨_, _, rfl, rfl, r1⟩
      | false => exact look_rep f (List.cons.inj e).2 r2
def putW (f : Str) (v : W) : List (Str × W) → List (Str × W)
  | [] => [(f, v)]
  | (g, x) :: r => if g = f then (g, v) :: r else (g, x) :: putW f v r
theorem putW_rep {K : PySem.W.Frag} {η : List Addr} {H : Hp} {f : Str} {w : W} {v : V} (rv : RepW K η H w v) : ∀ {fs : List (Str × W)} {vs : List (Str × V)}, fs.map (·.1) = vs.map (·.1) → RepWs K η H (fs.map (·.2)) (vs.map (·.2)) →
    (putW f w fs).map (·.1) = (L2.putF f v vs).map (·.1) ∧ RepWs K η H ((putW f w fs).map (·.2)) ((L2.putF f v vs).map (·.2))
  | [], [], _, _ => ⟨rfl, .cons rv .nil⟩
  | [], _ :: _, e, _ => by cases e
  | _ :: _, [], e, _ => by cases e
  | (a, x) :: fs, (b, y) :: vs, e, r => by
    rw [List.map_cons, List.map_cons] at e r
    cases r with
    | cons r1 r2 =>
      have e1 : a = b := (List.cons.inj e).1
      subst e1
      unfold putW L2.putF
      by_cases h : a = f
      · rw [if_pos h, if_pos h]
        exact ⟨e, .cons rv r2⟩
      · rw [if_neg h, if_neg h]
        obtain ⟨i1, i2⟩ := putW_rep rv (List.cons.inj e).2 r2
        exact ⟨by rw [List.map_cons, List.map_cons, i1], .cons r1 i2⟩
theorem putW_locs {n : Nat} {f : Str} {w : W} (h : locsB n w = true) : ∀ fs : List (Str × W), locsBs n (fs.map (·.2)) = true → locsBs n ((putW f w fs).map (·.2)) = true
  | [], _ => by show (locsB n w && locsBs n []) = true; rw [h]; rfl
  | (a, x) :: fs, e => by
    have e' : (locsB n x && locsBs n (fs.map (·.2))) = true := e
    rw [Bool.and_eq_true] at e'
    unfold putW
    by_cases hh : a = f
    · rw [if_pos hh]
      show (locsB n w && locsBs n (fs.map (·.2))) = true
      rw [h, e'.2]; rfl
    · rw [if_neg hh]
      show (locsB n x && locsBs n ((putW f w fs).map (·.2))) = true
      rw [e'.1, putW_locs h fs e'.2]; rfl
section
variable {X : Cx} {ct : Nat → Option Addr} {E : EX}
theorem obj_at {K : PySem.W.Frag} {η : List Addr} {H : Hp} {S : Store} {l : Nat} {v : V} {nm : Str} {fs : List (Str × W)} (q : S[l]? = some (.ob nm fs)) (rp : Rp K η H S) (r : RepW K η H (.loc l) v) :
    ∃ a dx vs, v = .ref a ∧ η[l]? = some a ∧ H a = some (.ins (He.ga K nm) dx vs) ∧ fs.map (·.1) = vs.map (·.1) ∧ RepWs K η H (fs.map (·.2)) (vs.map (·.2)) := by
  cases r with
  | loc r =>
    obtain ⟨dx, vs, h1, h2, h3⟩ := rp.all _ _ _ r q
    exact ⟨_, dx, vs, rfl, r, h1, h2, h3⟩
/-- o.f -/
def gFld (nm f : Str) (w : W) (S : Store) : O := match w with
  | .loc l => match S[l]? with
    | some (.ob nm' fs) => if nm' = nm then (fs.lookup f).map fun u => (u, S) else none
    | _ => none
  | _ => none
theorem i_fld {nm f : Str} {e : Expr} {fe : FE} {pos : Pos} (c : KCls X.K nm) (n : KFld X.K nm f) (he : PE X e (tF (gx X ct) E fe)) (hb : attributeBase e f X.env (eval e X.env) = eval e X.env := by rfl) :
    PE X (.Attribute e f pos) (tF (gx X ct) E (f1 (gFld nm f) fe)) := PEw (pe_fld he hb) (get1 (r := fun x H1 Q => ∃ a C dx fs v, x = .ref a ∧ H1 a = some (.ins C dx fs) ∧ L2.Cls X.K C ∧ L2.NoAttr X.K C f ∧ fs.lookup f = some v ∧ Q v H1) fun x H Q ⟨η, S, wx, rp, rx, h⟩ => by
  unfold gFld at h
  split at h
  · rename_i l
    split at h
    · rename_i nm' fs q
      split at h
      · rename_i e0
        subst e0
        obtain ⟨a, dx, vs, rfl, _, h1, h2, h3⟩ := obj_at q rp rx
        rcases look_rep f h2 h3 with ⟨n1, _⟩ | ⟨w, v, n1, n2, n3⟩
        · rw [n1] at h; exact h.elim
        · rw [n1] at h
          exact ⟨a, _, dx, vs, v, rfl, h1, c, n, n2, same_val rp n3 h⟩
      · exact h.elim
    · exact h.elim
  · exact h.elim)
/-- o.f = e -/
def fPutF (nm f : Str) (fv fo : FE) : FS := fun ρ S => toS ρ (fv ρ S) fun v S1 => toS ρ (fo ρ S1) fun o S2 => match o with
  | .loc l => match S2[l]? with
    | some (.ob nm' fs) => if nm' = nm ∧ locsB l v = true ∧ fs.length < 1000 then .next ρ (S2.set l (.ob nm (putW f v fs))) else .bad
    | _ => .bad
  | _ => .bad
theorem len_of {α β : Type} {fs : List (Str × α)} {vs : List (Str × β)} (e : fs.map (·.1) = vs.map (·.1)) : fs.length = vs.length := by
  rw [← List.length_map (f := (·.1)), e, List.length_map]
theorem write_ob {η : List Addr} {H : Hp} {S : Store} {K : PySem.W.Frag} {l : Nat} {a dx : Addr} {nm f : Str} {fs : List (Str × W)} {vs : List (Str × V)} {w : W} {v : V} (rp : Rp K η H S) (ha : η[l]? = some a) (q : S[l]? = some (.ob nm fs)) (h2 : fs.map (·.1) = vs.map (·.1)) (h3 : RepWs K η H (fs.map (·.2)) (vs.map (·.2)))
    (rw_ : RepW K η H w v) (hl : locsB l w = true) : Fu η H η (upd H a (.ins (He.ga K nm) dx (L2.putF f v vs))) ∧ Rp K η (upd H a (.ins (He.ga K nm) dx (L2.putF f v vs))) (S.set l (.ob nm (putW f w fs))) := by
  have m : a ∈ η := List.mem_of_getElem? ha
  obtain ⟨u, hu2, mu⟩ := rp.there m
  have fu : Fu η H η (upd H a (.ins (He.ga K nm) dx (L2.putF f v vs))) := fu_write m hu2 mu
  obtain ⟨p1, p2⟩ := putW_rep (f := f) rw_ h2 h3
  exact ⟨fu, rp.write ha ⟨dx, _, upd_same, p1, RepWs.fu fu _ _ p2⟩ (putW_locs hl fs (rp.wf l _ q))⟩
theorem s_putF {nm f : Str} {o e : Expr} {pos pos' : Pos} {fo fe : FE} (c : KCls X.K nm) (n : KFld X.K nm f) (ho : PE X o (tF (gx X ct) E fo)) (he : PE X e (tF (gx X ct) E fe)) (hs : swapsWith e (some (.Attribute o f pos')) pos.line X.env = pure false := by rfl) :
    PS X (.Assign [.Attribute o f pos'] e pos) (tS (gx X ct) E (fPutF nm f fe fo)) := PSw (ps_fld ho he hs) fun D σ H ⟨η, ρ, S, rp, er, h⟩ =>
  ⟨η, ρ, S, rp, er, FinR.mono (FinS.bind er h) fun v H1 ⟨η1, w, S1, f1, rp1, r1, h1⟩ =>
    ⟨η1, ρ, S1, rp1, er.fu f1, FinR.mono (FinS.bind (er.fu f1) h1) fun x H2 ⟨η2, wo, S2, f2, rp2, r2, h2⟩ => by
      have er2 := (er.fu f1).fu f2
      have rv := RepW.fu f2 _ _ r1
      split at h2
      · rename_i l
        cases q : S2[l]? with
        | none => simp only [q] at h2; exact h2.elim
        | some so =>
          cases so with
          | ob nm' fs =>
            simp only [q] at h2
            split at h2
            · rename_i hc
              obtain ⟨rfl, hl, hz⟩ := hc
              obtain ⟨a, dx, vs, rfl, ha, i1, i2, i3⟩ := obj_at q rp2 r2
              obtain ⟨fu, rp3⟩ := write_ob (dx := dx) (f := f) rp2 ha q i2 i3 rv hl
              exact ⟨a, _, dx, vs, rfl, i1, c, n, by rw [← len_of i2]; exact hz, h2 η2 _ σ fu rp3 (er2.fu fu)⟩
            · exact h2.elim
          | lst _ => simp only [q] at h2; exact h2.elim
          | dK _ => simp only [q] at h2; exact h2.elim
          | dT _ => simp only [q] at h2; exact h2.elim
      · exact h2.elim⟩⟩
/-- o.f op= e -/
def fAugF (nm f : Str) (g : W → W → Store → O) (fo fe : FE) : FS := fun ρ S => toS ρ (fo ρ S) fun o S1 => match gFld nm f o S1 with
  | some (u, _) => toS ρ (fe ρ S1) fun y S2 => match g u y S2 with
    | some (z, S3) => match o with
      | .loc l => match S3[l]? with
        | some (.ob nm' fs) => if nm' = nm ∧ locsB l z = true ∧ fs.length < 1000 then .next ρ (S3.set l (.ob nm (putW f z fs))) else .bad
        | _ => .bad
      | _ => .bad
    | none => .bad
  | none => .bad
theorem gFld_at {K : PySem.W.Frag} {η : List Addr} {H : Hp} {S S' : Store} {nm f : Str} {o u : W} {v : V} (e : gFld nm f o S = some (u, S')) (rp : Rp K η H S) (r : RepW K η H o v) :
    ∃ l a dx vs v', o = .loc l ∧ v = .ref a ∧ η[l]? = some a ∧ H a = some (.ins (He.ga K nm) dx vs) ∧ vs.lookup f = some v' ∧ RepW K η H u v' := by
  unfold gFld at e
  split at e
  · rename_i l
    split at e
    · rename_i nm' fs q
      split at e
      · rename_i e0
        subst e0
        obtain ⟨a, dx, vs, rfl, ha, h1, h2, h3⟩ := obj_at q rp r
        rcases look_rep f h2 h3 with ⟨n1, _⟩ | ⟨w, v, n1, n2, n3⟩
        · rw [n1] at e; cases e
        · rw [n1] at e; cases e; exact ⟨l, a, dx, vs, v, rfl, rfl, ha, h1, n2, n3⟩
      · cases e
    · cases e
  · cases e
theorem s_augF {nm f : Str} {o e : Expr} {op : Operator} {g : W → W → Store → O} {pos tpos : Pos} {fo fe : FE} (c : KCls X.K nm) (n : KFld X.K nm f) (hop : OpR X (inplaceOp op) (Sim2 X ct g)) (ho : PE X o (tF (gx X ct) E fo)) (he : PE X e (tF (gx X ct) E fe)) :
    PS X (.AugAssign (.Attribute o f tpos) op e pos) (tS (gx X ct) E (fAugF nm f g fo fe)) := PSw (ps_fldaug (rd := Sim2 X ct g) ho he (fun pins s σ H x y u v Q I rx ry q => hop pins s σ H x y u v Q I rx ry q)) fun D σ H ⟨η, ρ, S, rp, er, h⟩ =>
  ⟨η, ρ, S, rp, er, FinR.mono (FinS.bind er h) fun v H1 ⟨η1, wo, S1, f1, rp1, r1, h1⟩ => by
    cases q : gFld nm f wo S1 with
    | none => simp only [q] at h1; exact h1.elim
    | some p =>
      obtain ⟨u, S1'⟩ := p
      simp only [q] at h1
      obtain ⟨l, a, dx, vs, v', rfl, rfl, ha, i1, i2, i3⟩ := gFld_at q rp1 r1
      refine ⟨a, _, dx, vs, v', rfl, i1, c, n, i2, η1, ρ, S1, rp1, er.fu f1, FinR.mono (FinS.bind (er.fu f1) h1) fun y H2 ⟨η2, wy, S2, f2, rp2, r2, h2⟩ => ?_⟩
      cases q2 : g u wy S2 with
      | none => simp only [q2] at h2; exact h2.elim
      | some p =>
        obtain ⟨z, S3⟩ := p
        simp only [q2] at h2
        refine ⟨η2, S2, u, wy, rp2, RepW.fu f2 _ _ i3, r2, ?_⟩
        rw [q2]
        intro η3 H3 zv f3 rp3 rz
        cases q3 : S3[l]? with
        | none => simp only [q3] at h2; exact h2.elim
        | some so =>
          cases so with
          | ob nm' fs =>
            simp only [q3] at h2
            split at h2
            · rename_i hc
              obtain ⟨rfl, hl, hz⟩ := hc
              have ha3 : η3[l]? = some a := f3.get (f2.get ha)
              obtain ⟨dx', vs', j1, j2, j3⟩ := rp3.all _ _ _ ha3 q3
              obtain ⟨fu, rp4⟩ := write_ob (dx := dx') (f := f) rp3 ha3 q3 j2 j3 rz hl
              exact ⟨dx', vs', j1, by rw [← len_of j2]; exact hz, h2 η3 _ σ (f3.trans fu) rp4 (((er.fu f1).fu f2).fu (f3.trans fu))⟩
            · exact h2.elim
          | lst _ => simp only [q3] at h2; exact h2.elim
          | dK _ => simp only [q3] at h2; exact h2.elim
          | dT _ => simp only [q3] at h2; exact h2.elim⟩
end
/-! methods -/
section
variable {X : Cx} {ct : Nat → Option Addr} {CX : CXT} {k n : Nat} {E : EX} {nm m : Str} {ps : List Str} {g : List W → Store → R W} {o e : Expr} {es : List Expr} {pos apos : Pos} {fo : FE} {fa : FA}
def isOb (nm m : Str) (o : W) (S : Store) : Bool := match o with
  | .loc l => match S[l]? with
    | some (.ob nm' fs) => decide (nm' = nm) && (fs.lookup m).isNone
    | _ => false
  | _ => false
theorem isOb_at {K : PySem.W.Frag} {η : List Addr} {H : Hp} {S : Store} {w : W} {v : V} (e : isOb nm m w S = true) (rp : Rp K η H S) (r : RepW K η H w v) : ∃ a dx vs, v = .ref a ∧ H a = some (.ins (He.ga K nm) dx vs) ∧ vs.lookup m = none := by
  unfold isOb at e
  split at e
  · rename_i l
    split at e
    · rename_i nm' fs q
      rw [Bool.and_eq_true, decide_eq_true_eq] at e
      obtain ⟨rfl, e2⟩ := e
      obtain ⟨a, dx, vs, rfl, ha, h1, h2, h3⟩ := obj_at q rp r
      rcases look_rep m h2 h3 with ⟨n1, n2⟩ | ⟨w, v, n1, n2, n3⟩
      · exact ⟨a, dx, vs, rfl, h1, n2⟩
      · rw [n1] at e2; cases e2
    · cases e
  · cases e
def fMethC (nm m : Str) (n : Nat) (g : List W → Store → R W) (fo : FE) (fa : FA) : FE := fun ρ S => (fo ρ S).bind fun o S1 => if isOb nm m o S1 = true then (fa ρ S1).bind fun ws S2 => if ws.length + 1 = n then frz S2.length (g (o :: ws) S2) else .bad else .bad
def fMethCL (nm m : Str) (n : Nat) (g : List W → Store → R W) (fo : FE) (fa : FA) : FE := fun ρ S => (fo ρ S).bind fun o S1 => if isOb nm m o S1 = true then (fa ρ S1).bind fun ws S2 => if ws.length + 1 = n then g (o :: ws) S2 else .bad else .bad
/-- a method of the class nm -/
def CalleeM (CX : CXT) (P : Program) (w : World) (K : PySem.W.Frag) (mg : Str → Option Value) (base : Heap) (ct : Nat → Option Addr) (k : Nat) (nm m : Str) (ps : List Str) (g : List W → Store → R W) : Prop :=
  ∃ (f : Addr) (fd : FuncData), FnG P w K mg base CX k f fd ps (spG ⟨K, ct⟩ ps.length g) ∧ L2.Meth K (He.ga K nm) m f ∧ Binds K fd ps []
theorem pe_methG {C f : Addr} {fd : FuncData} {sp : L2.St → Sp} {ta : TE} {t : TA} {pl : Sem Bool} (he : PE X o ta) (c : L2.Cls X.K C) (hm : L2.Meth X.K C m f)
    (run : ∀ (pins : List (Addr × Obj)) (σ : L2.St) (H : Hp) (s : Shared) (Q : VK) (us : List Value) (vs : List V), Inv X pins σ H s → Vals vs us → sp σ vs H Q (E σ) → wpAny (model X.prog X.w) X.A (call (.ref f) us) (EP X pins σ Q) X.xe s)
    (ha : PA X (e :: es) t) (hst : starEach (e :: es) X.env = (false, eval e X.env) :: starEach es X.env := by rfl) (hpl : (backTo pos (starEach es X.env)).any (·.1) = false := by rfl)
    (ht : eval (.Call (.Attribute o m apos) (e :: es) [] pos) X.env = (do
      let ov ← eval o X.env
      standAt apos.atName
      let (f, first) ← holding [ov] (getMethod ov m pl)
      callWith pos f first (backTo pos (starEach (e :: es) X.env)) (backToKw pos (keywordEach [] X.env))) := by rfl) :
    PE X (.Call (.Attribute o m apos) (e :: es) [] pos) (fun σ H Q => ta σ H fun x H1 => ∃ a dx fs, x = .ref a ∧ H1 a = some (.ins C dx fs) ∧ fs.lookup m = none ∧ t σ H1 fun vs H2 => sp σ (x :: vs) H2 Q (E σ)) := by
  refine ⟨fun pins s σ H Q I h => ?_⟩
  refine PySem.W.methodCall_KW (pl := pl) (thn (he.run pins s σ H _ I h) fun u s1 ⟨x, H1, I1, rx, a, dx, fs, ex, ea, l, q⟩ => ?_) ht
  subst ex
  obtain rfl : u = Value.ref a := rx
  refine getmeth_ok I1 ea c hm l ?_
  refine PySem.W.callWith_K (first := [.ref a]) (h₀ := X.base) I.ok.mod.kin hm.kp (thn (ha.run pos pins s1 σ H1 _ I1 q) fun us s2 ⟨vs, H2, I2, r, q2⟩ => ⟨I2.kIn, ?_⟩) hst hpl
  exact run pins σ H2 s2 Q (.ref a :: us) (.ref a :: vs) I2 (.cons rfl r) q2
theorem pe_methG0 {C f : Addr} {fd : FuncData} {sp : L2.St → Sp} {ta : TE} {pl : Sem Bool} (he : PE X o ta) (c : L2.Cls X.K C) (hm : L2.Meth X.K C m f)
    (run : ∀ (pins : List (Addr × Obj)) (σ : L2.St) (H : Hp) (s : Shared) (Q : VK) (us : List Value) (vs : List V), Inv X pins σ H s → Vals vs us → sp σ vs H Q (E σ) → wpAny (model X.prog X.w) X.A (call (.ref f) us) (EP X pins σ Q) X.xe s)
    (ht : eval (.Call (.Attribute o m apos) [] [] pos) X.env = (do
      let ov ← eval o X.env
      standAt apos.atName
      let (f, first) ← holding [ov] (getMethod ov m pl)
      callWith pos f first (backTo pos (starEach [] X.env)) (backToKw pos (keywordEach [] X.env))) := by rfl) :
    PE X (.Call (.Attribute o m apos) [] [] pos) (fun σ H Q => ta σ H fun x H1 => ∃ a dx fs, x = .ref a ∧ H1 a = some (.ins C dx fs) ∧ fs.lookup m = none ∧ sp σ [x] H1 Q (E σ)) := by
  refine ⟨fun pins s σ H Q I h => ?_⟩
  refine PySem.W.methodCall_KW (pl := pl) (thn (he.run pins s σ H _ I h) fun u s1 ⟨x, H1, I1, rx, a, dx, fs, ex, ea, l, q⟩ => ?_) ht
  subst ex
  obtain rfl : u = Value.ref a := rx
  refine getmeth_ok I1 ea c hm l ?_
  exact PySem.W.callWith_K0 (first := [.ref a]) I1.kIn hm.kp (run pins σ H1 s1 Q [.ref a] [.ref a] I1 (.cons rfl .nil) q)
theorem cMethC {pl : Sem Bool} (C : CalleeM CX X.prog X.w X.K X.mg X.base ct k nm m ps g) (c : KCls X.K nm) (px : ∀ σ, PassesAt CX X σ (E σ)) (hr : Room k X.A) (gd : X.A.guards = some []) (ho : PE X o (tF (gx X ct) E fo)) (ha : PA X (e :: es) (tA (gx X ct) E fa)) (hn : ps.length = n := by rfl)
    (hst : starEach (e :: es) X.env = (false, eval e X.env) :: starEach es X.env := by rfl) (hpl : (backTo pos (starEach es X.env)).any (·.1) = false := by rfl)
    (ht : eval (.Call (.Attribute o m apos) (e :: es) [] pos) X.env = (do
      let ov ← eval o X.env
      standAt apos.atName
      let (f, first) ← holding [ov] (getMethod ov m pl)
      callWith pos f first (backTo pos (starEach (e :: es) X.env)) (backToKw pos (keywordEach [] X.env))) := by rfl) :
    PE X (.Call (.Attribute o m apos) (e :: es) [] pos) (tF (gx X ct) E (fMethC nm m n g fo fa)) := by
  obtain ⟨f, fd, F, hm, bn⟩ := C
  subst hn
  refine PEw (pe_methG (fd := fd) (sp := fun _ => spG (gx X ct) ps.length g) (E := E) ho c hm (fun pins σ H s Q us vs I r q => run_E F hr gd bn (px σ) I r q) ha hst hpl ht) fun σ H Q ⟨η, ρ, S, rp, er, h⟩ => ?_
  refine ⟨η, ρ, S, rp, er, FinR.mono (FinR.bind (rel := relW (gx X ct)) h) fun x H1 ⟨η1, wo, S1, f1, rp1, r1, h1⟩ => ?_⟩
  by_cases hb : isOb nm m wo S1 = true
  · rw [if_pos hb] at h1
    obtain ⟨a, dx, vs, rfl, j1, j2⟩ := isOb_at hb rp1 r1
    refine ⟨a, dx, vs, rfl, j1, j2, η1, ρ, S1, rp1, er.fu f1, FinR.mono (FinR.bind (rel := relL (gx X ct)) h1) fun ys H2 ⟨η2, ws, S2, f2, rp2, r2, h2⟩ => ?_⟩
    by_cases hw : ws.length + 1 = ps.length
    · rw [if_pos hw] at h2
      exact ⟨by rw [List.length_cons, ← r2.length]; exact hw, η2, S2, wo :: ws, rp2, .cons (RepW.fu f2 _ _ r1) r2, FinR.frz rp2 h2⟩
    · rw [if_neg hw] at h2; exact h2.elim
  · rw [if_neg hb] at h1; exact h1.elim
theorem cMethCL {pl : Sem Bool} (C : CalleeM CX X.prog X.w X.K X.mg X.base ct k nm m ps g) (c : KCls X.K nm) (px : ∀ σ, PassesAt CX X σ (E σ)) (hr : Room k X.A) (gd : X.A.guards = some []) (ho : PE X o (tF (gx X ct) E fo)) (ha : PA X (e :: es) (tA (gx X ct) E fa)) (hn : ps.length = n := by rfl)
    (hst : starEach (e :: es) X.env = (false, eval e X.env) :: starEach es X.env := by rfl) (hpl : (backTo pos (starEach es X.env)).any (·.1) = false := by rfl)
    (ht : eval (.Call (.Attribute o m apos) (e :: es) [] pos) X.env = (do
      let ov ← eval o X.env
      standAt apos.atName
      let (f, first) ← holding [ov] (getMethod ov m pl)
      callWith pos f first (backTo pos (starEach (e :: es) X.env)) (backToKw pos (keywordEach [] X.env))) := by rfl) :
    PE X (.Call (.Attribute o m apos) (e :: es) [] pos) (tF (gx X ct) E (fMethCL nm m n g fo fa)) := by
  obtain ⟨f, fd, F, hm, bn⟩ := C
  subst hn
  refine PEw (pe_methG (fd := fd) (sp := fun _ => spG (gx X ct) ps.length g) (E := E) ho c hm (fun pins σ H s Q us vs I r q => run_E F hr gd bn (px σ) I r q) ha hst hpl ht) fun σ H Q ⟨η, ρ, S, rp, er, h⟩ => ?_
  refine ⟨η, ρ, S, rp, er, FinR.mono (FinR.bind (rel := relW (gx X ct)) h) fun x H1 ⟨η1, wo, S1, f1, rp1, r1, h1⟩ => ?_⟩
  by_cases hb : isOb nm m wo S1 = true
  · rw [if_pos hb] at h1
    obtain ⟨a, dx, vs, rfl, j1, j2⟩ := isOb_at hb rp1 r1
    refine ⟨a, dx, vs, rfl, j1, j2, η1, ρ, S1, rp1, er.fu f1, FinR.mono (FinR.bind (rel := relL (gx X ct)) h1) fun ys H2 ⟨η2, ws, S2, f2, rp2, r2, h2⟩ => ?_⟩
    by_cases hw : ws.length + 1 = ps.length
    · rw [if_pos hw] at h2
      exact ⟨by rw [List.length_cons, ← r2.length]; exact hw, η2, S2, wo :: ws, rp2, .cons (RepW.fu f2 _ _ r1) r2, h2⟩
    · rw [if_neg hw] at h2; exact h2.elim
  · rw [if_neg hb] at h1; exact h1.elim
/-- without arguments -/
def fMethC0 (nm m : Str) (g : List W → Store → R W) (fo : FE) : FE := fun ρ S => (fo ρ S).bind fun o S1 => if isOb nm m o S1 = true then frz S1.length (g [o] S1) else .bad
def fMethC0L (nm m : Str) (g : List W → Store → R W) (fo : FE) : FE := fun ρ S => (fo ρ S).bind fun o S1 => if isOb nm m o S1 = true then g [o] S1 else .bad
theorem cMethC0 {pl : Sem Bool} (C : CalleeM CX X.prog X.w X.K X.mg X.base ct k nm m ps g) (c : KCls X.K nm) (px : ∀ σ, PassesAt CX X σ (E σ)) (hr : Room k X.A) (gd : X.A.guards = some []) (ho : PE X o (tF (gx X ct) E fo)) (hn : ps.length = 1 := by rfl)
    (ht : eval (.Call (.Attribute o m apos) [] [] pos) X.env = (do
      let ov ← eval o X.env
      standAt apos.atName
      let (f, first) ← holding [ov] (getMethod ov m pl)
      callWith pos f first (backTo pos (starEach [] X.env)) (backToKw pos (keywordEach [] X.env))) := by rfl) :
    PE X (.Call (.Attribute o m apos) [] [] pos) (tF (gx X ct) E (fMethC0 nm m g fo)) := by
  obtain ⟨f, fd, F, hm, bn⟩ := C
  refine PEw (pe_methG0 (fd := fd) (sp := fun _ => spG (gx X ct) ps.length g) (E := E) ho c hm (fun pins σ H s Q us vs I r q => run_E F hr gd bn (px σ) I r q) ht) fun σ H Q ⟨η, ρ, S, rp, er, h⟩ => ?_
  refine ⟨η, ρ, S, rp, er, FinR.mono (FinR.bind (rel := relW (gx X ct)) h) fun x H1 ⟨η1, wo, S1, f1, rp1, r1, h1⟩ => ?_⟩
  by_cases hb : isOb nm m wo S1 = true
  · rw [if_pos hb] at h1
    obtain ⟨a, dx, vs, rfl, j1, j2⟩ := isOb_at hb rp1 r1
    exact ⟨a, dx, vs, rfl, j1, j2, by rw [hn]; rfl, η1, S1, [wo], rp1, .cons r1 .nil, FinR.frz rp1 h1⟩
  · rw [if_neg hb] at h1; exact h1.elim
theorem cMethC0L {pl : Sem Bool} (C : CalleeM CX X.prog X.w X.K X.mg X.base ct k nm m ps g) (c : KCls X.K nm) (px : ∀ σ, PassesAt CX X σ (E σ)) (hr : Room k X.A) (gd : X.A.guards = some []) (ho : PE X o (tF (gx X ct) E fo)) (hn : ps.length = 1 := by rfl)
    (ht : eval (.Call (.Attribute o m apos) [] [] pos) X.env = (do
      let ov ← eval o X.env
      standAt apos.atName
      let (f, first) ← holding [ov] (getMethod ov m pl)
      callWith pos f first (backTo pos (starEach [] X.env)) (backToKw pos (keywordEach [] X.env))) := by rfl) :
    PE X (.Call (.Attribute o m apos) [] [] pos) (tF (gx X ct) E (fMethC0L nm m g fo)) := by
  obtain ⟨f, fd, F, hm, bn⟩ := C
  refine PEw (pe_methG0 (fd := fd) (sp := fun _ => spG (gx X ct) ps.length g) (E := E) ho c hm (fun pins σ H s Q us vs I r q => run_E F hr gd bn (px σ) I r q) ht) fun σ H Q ⟨η, ρ, S, rp, er, h⟩ => ?_
  refine ⟨η, ρ, S, rp, er, FinR.mono (FinR.bind (rel := relW (gx X ct)) h) fun x H1 ⟨η1, wo, S1, f1, rp1, r1, h1⟩ => ?_⟩
  by_cases hb : isOb nm m wo S1 = true
  · rw [if_pos hb] at h1
    obtain ⟨a, dx, vs, rfl, j1, j2⟩ := isOb_at hb rp1 r1
    exact ⟨a, dx, vs, rfl, j1, j2, by rw [hn]; rfl, η1, S1, [wo], rp1, .cons r1 .nil, h1⟩
  · rw [if_neg hb] at h1; exact h1.elim
end
/-- the defs of a class -/
def MethAt (K : PySem.W.Frag) (nm m qual : Str) (st : Stmt) : Prop := ∃ (f : Addr) (fd : FuncData), FunD K m qual (defArgs st) (defBody st) (defScope st) [] [] f fd ∧ L2.Meth K (He.ga K nm) m f
section
variable {P : Program} {w : World} {K : PySem.W.Frag} {mg : Str → Option Value} {base : Heap} {ct : Nat → Option Addr} {n : Nat} {nm m qual : Str} {st : Stmt} {N ps : List Str} {g : List W → Store → R W} {b : FS}
def BndM (m qual : Str) (st : Stmt) (ps : List Str) : Prop := ∀ (kV doc pm : Value) (an : Option Addr) (cdv cv : Value) (us : List Value), us.length = ps.length → bindArgs (PySem.W.fnOf m qual (defArgs st) (defBody st) (defScope st) .none kV doc pm an cdv cv) ⟨us, []⟩ = pure (ps.zip us)
theorem calleeM_zero (D : MethAt K nm m qual st) (hB : BndM m qual st ps) (h : ∀ ws S, g ws S = .bad) : CalleeM CX0 P w K mg base ct n nm m ps g := by
  obtain ⟨f, fd, F, hm⟩ := D
  exact ⟨f, fd, fnG_zero h, hm, F.bindsN hB⟩
theorem calleeM_succ (D : MethAt K nm m qual st) (hB : BndM m qual st ps) (hS : FnScope N ps (defScope st)) (e : ∀ ws S, g ws S = runB N.length b ws S)
    (h : ∀ (f : Addr) (cdv : Value) (A : Around) (outer : List Env) (s : Shared) (H : Hp) (E : XK), Room n (A.deeper (envOfC qual (defScope st) s.heap.objs.size f cdv)) → A.guards = some [] → PSs (bodyX P w K mg base N qual (defScope st) f cdv A outer s H E) (defBody st) (tS ⟨K, ct⟩ NX b)) :
    CalleeM CX0 P w K mg base ct (n + 1) nm m ps g := by
  obtain ⟨f, fd, F, hm⟩ := D
  exact ⟨f, fd, FunD.okG F hS fun cdv A outer s H E r gd => ⟨b, fun ws S _ => e ws S, h f cdv A outer s H E r gd⟩, hm, F.bindsN hB⟩
end
end VI
set_option Elab.async false
set_option linter.all false
set_option maxRecDepth 100000
namespace VI
open PySem PySem.Spec PyProof.Rows L2

/-! instances made: __init__ puts what it is told in fields -/
def goI (ρ : Rho) : List (Str × FE) → List (Str × W) → Store → R (List (Str × W))
  | [], fs, S => .ok fs S
  | (f, e) :: r, fs, S => (e ρ S).bind fun w S1 => goI ρ r (putW f w fs) S1
theorem fw_ins {η : List Addr} {H : Hp} {a C dx : Addr} {vs vs' : List (Str × V)} (h : H a = some (.ins C dx vs)) : Fw η H η (upd H a (.ins C dx vs')) := by
  refine ⟨⟨[], by simp⟩, fun a h => .inl h, fun b xs q => ?_, fun b ob v q => ?_, fun b xs _ i q => ?_⟩
  · rw [upd_ne]
    · exact q
    · rintro rfl; rw [h] at q; cases q
  · rw [upd_ne]
    · exact q
    · rintro rfl; rw [h] at q; cases q
  · rw [upd_ne]
    · exact q
    · rintro rfl; rw [h] at q; cases q; exact i.elim
theorem Rp.ins {K : PySem.W.Frag} {η : List Addr} {H : Hp} {S : Store} {a C dx : Addr} {vs vs' : List (Str × V)} (r : Rp K η H S) (h : H a = some (.ins C dx vs)) (n : a ∉ η) : Rp K η (upd H a (.ins C dx vs')) S :=
  ⟨r.len, r.nd, fun l b so h1 h2 => (r.all l b so h1 h2).fw (fw_ins h) fun u e => by
    rw [upd_ne]
    · exact e
    · rintro rfl; exact n (List.mem_of_getElem? h1), r.wf⟩
/-- a thing that was not there may change -/
theorem Fu.over {η η' : List Addr} {H H' : Hp} {a : Addr} {o : HO} (f : Fu η H η' H') (h : H a = none) (n : a ∉ η') : Fu η H η' (upd H' a o) := by
  refine ⟨f.px, f.nw, fun b q => ?_, fun b xs q => ?_, fun b ob v q => ?_, fun b xs i q => ?_⟩
  · by_cases e : b = a
    · subst e; exact h
    · rw [upd_ne e] at q; exact f.tk b q
  · rw [upd_ne]
    · exact f.tp b xs q
    · rintro rfl; rw [h] at q; cases q
  · rw [upd_ne]
    · exact f.fz b ob v q
    · rintro rfl; rw [h] at q; cases q
  · rw [upd_ne]
    · exact f.ls b xs i q
    · rintro rfl; rw [h] at q; cases q
/-- what the body of an __init__ comes to; η0, H0: ahead of the new instance at a -/
def tInit (G : Gc) (nm : Str) (Z : XK) (L : List (Str × FE)) : TS := fun D σ H => ∃ η0 H0 η ρ S a dx vs fs, Fu η0 H0 η H ∧ H0 a = none ∧ Rp G.K η H S ∧ ERep G.K η H ρ σ ∧ σ[0]? = some (some (.ref a)) ∧ H a = some (.ins (He.ga G.K nm) dx vs) ∧ a ∉ η ∧ fs.map (·.1) = vs.map (·.1) ∧ RepWs G.K η H (fs.map (·.2)) (vs.map (·.2)) ∧ fs.length + L.length < 900 ∧
  (match goI ρ L fs S with
  | .ok fs' S' => ∀ η' H' vs', Fu η0 H0 η' H' → Rp G.K η' H' S' → H' a = some (.ins (He.ga G.K nm) dx vs') → a ∉ η' → fs'.map (·.1) = vs'.map (·.1) → RepWs G.K η' H' (fs'.map (·.2)) (vs'.map (·.2)) → D.nx σ H'
  | .exc c fs' S' => FinX G Z η0 H0 c fs' S'
  | .bad => False)
theorem putW_len (f : Str) (w : W) : ∀ fs : List (Str × W), (putW f w fs).length ≤ fs.length + 1
  | [] => by simp [putW]
  | (a, x) :: r => by
    unfold putW
    split
    · simp
    · have := putW_len f w r
      simp only [List.length_cons]
      omega
section
variable {X : Cx} {ct : Nat → Option Addr} {Z : XK} {nm : Str}
theorem init_nil : PSs X [] (tInit (gx X ct) nm Z []) := PSsw pss_nil fun D σ H ⟨η0, H0, η, ρ, S, a, dx, vs, fs, f0, n0, rp, er, e0, ha, na, h1, h2, _, h⟩ => h η H vs f0 rp ha na h1 h2
theorem init_cons {f : Str} {x : Str} {e : Expr} {fe : FE} {p pos pos' : Pos} {rest : List Stmt} {L : List (Str × FE)} (c : KCls X.K nm) (n : KFld X.K nm f) (he : PE X e (tF (gx X ct) (fun _ => Z) fe)) (hr : PSs X rest (tInit (gx X ct) nm Z L)) (hN : X.N[0]? = some x := by rfl)
    (hv : Vis X.env.scope x := by first | exact Or.inl rfl | exact Or.inr (Or.inl rfl) | exact Or.inr (Or.inr rfl)) (hs : swapsWith e (some (.Attribute (.Name x p) f pos')) pos.line X.env = pure false := by rfl) (hd : (x == ("__debug__" : Str)) = false := by decide) (hcd : (x == ("__classdict__" : Str)) = false := by decide) :
    PSs X (.Assign [.Attribute (.Name x p) f pos'] e pos :: rest) (tInit (gx X ct) nm Z ((f, fe) :: L)) := PSsw (pss_cons (ps_fld (pe_var hN hv hd hcd) he hs) hr) fun D σ H ⟨η0, H0, η, ρ, S, a, dx, vs, fs, f0, n0, rp, er, e0, ha, na, h1, h2, hz, h⟩ => by
  rw [List.length_cons] at hz
  refine ⟨η, ρ, S, rp, er, ?_⟩
  have h' : match (fe ρ S).bind fun w S1 => goI ρ L (putW f w fs) S1 with
    | .ok fs' S' => ∀ η' H' vs', Fu η0 H0 η' H' → Rp X.K η' H' S' → H' a = some (.ins (He.ga X.K nm) dx vs') → a ∉ η' → fs'.map (·.1) = vs'.map (·.1) → RepWs X.K η' H' (fs'.map (·.2)) (vs'.map (·.2)) → D.nx σ H'
    | .exc c fs' S' => FinX (gx X ct) Z η0 H0 c fs' S'
    | .bad => False := h
  cases q : fe ρ S with
  | bad => rw [q] at h'; exact h'.elim
  | exc cc fs' S' => rw [q] at h'; exact FinX.fu f0 h'
  | ok w S1 =>
    rw [q] at h'
    intro η1 H1 v f1 rp1 r1
    have na1 : a ∉ η1 := f1.out na ha
    have ha1 := f1.ls _ _ na ha
    have fw := fw_ins (η := η1) (vs' := L2.putF f v vs) ha1
    obtain ⟨p1, p2⟩ := putW_rep (f := f) r1 h1 (RepWs.fu f1 _ _ h2)
    have hz' := putW_len f w fs
    exact ⟨.ref a, e0, a, _, dx, vs, rfl, ha1, c, n, by rw [← len_of h1]; omega, η0, H0, η1, ρ, S1, a, dx, _, putW f w fs, (f0.trans f1).over n0 na1, n0, rp1.ins ha1 na1, (er.fu f1).fw fw, e0, upd_same, na1, p1, RepWs.fw fw p2, by omega, h'⟩
end
/-- what an __init__ promises -/
def spInitO (G : Gc) (nm : Str) (n : Nat) (gi : List W → Store → R (List (Str × W))) : Sp := fun vs H Q E => ∃ η0 H0 η S a dx us ws, vs = .ref a :: us ∧ ws.length + 1 = n ∧ Fu η0 H0 η H ∧ H0 a = none ∧ Rp G.K η H S ∧ RepWs G.K η H ws us ∧ H a = some (.ins (He.ga G.K nm) dx []) ∧ a ∉ η ∧
  (match gi ws S with
  | .ok fs' S' => ∀ η' H' vs', Fu η0 H0 η' H' → Rp G.K η' H' S' → H' a = some (.ins (He.ga G.K nm) dx vs') → a ∉ η' → fs'.map (·.1) = vs'.map (·.1) → RepWs G.K η' H' (fs'.map (·.2)) (vs'.map (·.2)) → Q .non H'
  | .exc c fs' S' => FinX G E η0 H0 c fs' S'
  | .bad => False)
def startI (n : Nat) (ws : List W) : Rho := none :: (ws.map some ++ List.replicate (n - (ws.length + 1)) none)
theorem startI_rep {K : PySem.W.Frag} {η : List Addr} {H : Hp} {N : List Str} {ws : List W} {us : List V} {v : V} (hn : us.length + 1 ≤ N.length) (r : RepWs K η H ws us) : ERep K η H (startI N.length ws) (L2.start N (v :: us)) := by
  have hl := r.length
  unfold startI L2.start
  refine ⟨by simp; omega, fun i w h => ?_⟩
  cases i with
  | zero => cases h
  | succ i =>
    rw [List.getElem?_cons_succ] at h
    by_cases hi : i < ws.length
    · rw [List.getElem?_append_left (by rw [List.length_map]; exact hi), List.getElem?_map] at h
      cases q : ws[i]? with
      | none => rw [q] at h; cases h
      | some u =>
        rw [q] at h
        have z : u = w := Option.some.inj (Option.some.inj h)
        subst z
        obtain ⟨v, e, rv⟩ := r.get q
        refine ⟨v, ?_, rv⟩
        rw [List.map_cons, List.cons_append, List.getElem?_cons_succ, List.getElem?_append_left (by rw [List.length_map, ← r.length]; exact hi), List.getElem?_map, e]
        rfl
    · rw [List.getElem?_append_right (by rw [List.length_map]; omega), List.getElem?_replicate] at h
      split at h <;> cases h
section
variable {P : Program} {w : World} {K : PySem.W.Frag} {mg : Str → Option Value} {base : Heap} {ct : Nat → Option Addr} {nm : Str}
theorem fnI_of {k : Nat} {f : Addr} {name qual : Str} {pr : Arguments} {body : List Stmt} {sc : Scope} {dV kV doc pm cdv ctv oc : Value} {an od : Option Addr} {sl : Array (Option Value)} {N ps : List Str} {L : List (Str × FE)}
    (lk : K.lookup f = some ⟨oc, od, .func (PySem.W.fnOf name qual pr body sc dV kV doc pm an cdv ctv), sl⟩) (hcd : PySem.W.codeIn K cdv qual = true) (hS : FnScope N ps sc) (hps : ps.length ≤ N.length) (hL : L.length < 900)
    (hb : ∀ (A : Around) (outer : List Env) (s : Shared) (H : Hp) (E : XK), Room k (A.deeper (envOfC qual sc s.heap.objs.size f cdv)) → A.guards = some [] →
      PSs (bodyX P w K mg base N qual sc f cdv A outer s H E) body (tInit ⟨K, ct⟩ nm E0 L)) :
    FnG P w K mg base CX0 (k + 1) f (PySem.W.fnOf name qual pr body sc dV kV doc pm an cdv ctv) ps (spInitO ⟨K, ct⟩ nm ps.length fun ws S => noX (goI (startI N.length ws) L [] S)) where
  len := fun vs H Q E ⟨_, _, η, S, a, dx, us, ws, e, hl, _, _, rp, rr, _⟩ => by rw [e, List.length_cons, ← rr.length]; exact hl
  run := by
    intro A outer s H args us0 vs Q E room gd env bnd rel ⟨η0, H0, η, S, a, dx, us, ws, e, hl, f0, n0, rp, rr, ha, na, fin⟩
    subst e
    have hlen : (V.ref a :: us).length = ps.length := by rw [List.length_cons, ← rr.length]; exact hl
    have hin : K.In s.heap := env.mod.kin.keeps fun c o z => (env.bs c o z).1
    have nolim : s.heap.NoLimit := env.mod.nolimit.keeps fun c o z => (env.bs c o z).1
    have kinds : ∀ p ∈ ps.zip us0, sc.names.lookup p.1 = some .local ∨ (sc.names.lookup p.1 = some .cell ∧ ((cellsFrom (s.heap.objs.size + 1) sc.names []).lookup p.1).isSome = true) := by
      rintro ⟨m, u⟩ hm
      rcases hS.par m (List.of_mem_zip hm).1 with z | z
      · exact Or.inl z
      · exact Or.inr ⟨z, PySem.W.cellsFrom_some _ _ _ (Or.inl z)⟩
    refine codeAny_call_function room.depth (hin _ _ lk) rfl hS.co hS.gen rfl (PySem.W.codeRec_of hin hcd) (bnd _ _ _ _ ?_)
    refine wpAny_newFunctionEnv_cells hS.kind kinds fun en hen t1 tx => ?_
    subst hen
    refine ⟨nolim.keeps tx.toInCall.keep, codeAny_func ?_⟩
    have hbody := hb A outer s H E (room.deeper _) gd
    have inv0 := inv_start (CX := CX0) (E := E) hS room.hd env hlen rel tx
    have pre : tInit ⟨K, ct⟩ nm E0 L { nx := fun _ H' => Q .non H', rt := Q } (L2.start N (.ref a :: us)) H := by
      refine ⟨η0, H0, η, startI N.length ws, S, a, dx, [], [], f0, n0, rp, startI_rep (by rw [List.length_cons] at hlen; omega) rr, rfl, ha, na, rfl, .nil, by rw [List.length_nil]; omega, ?_⟩
      cases eb : goI (startI N.length ws) L [] S with
      | ok fs' S' => simp only [eb, noX] at fin ⊢; exact fin
      | exc c fs' S' => simp only [eb, noX] at fin
      | bad => simp only [eb, noX] at fin
    refine wpAny_mono ((PSs.nox hbody).run [] t1 (L2.start N (.ref a :: us)) H _ inv0 pre) (fun fl t2 hf => ?_) fun e t2 hf => hf
    cases fl with
    | ret u =>
      obtain ⟨v, σ2, H2, J, rv, q⟩ := hf
      exact ⟨v, H2, J.os, J.bare, J.base, J.hok, rv, q⟩
    | next =>
      obtain ⟨σ2, H2, J, q⟩ := hf
      exact ⟨V.non, H2, J.os, J.bare, J.base, J.hok, rfl, q⟩
    | brk => exact False.elim (let ⟨_, _, _, q⟩ := hf; q)
    | cont => exact False.elim (let ⟨_, _, _, q⟩ := hf; q)
theorem FunD.okI {x qual : Str} {pr : Arguments} {body : List Stmt} {sc : Scope} {dvs : List V} {kws : List (Str × V)} {f : Addr} {fd : FuncData} {N ps : List Str} {k : Nat} {L : List (Str × FE)} (F : FunD K x qual pr body sc dvs kws f fd) (hS : FnScope N ps sc) (hps : ps.length ≤ N.length) (hL : L.length < 900)
    (hb : ∀ (cdv : Value) (A : Around) (outer : List Env) (s : Shared) (H : Hp) (E : XK), Room k (A.deeper (envOfC qual sc s.heap.objs.size f cdv)) → A.guards = some [] → PSs (bodyX P w K mg base N qual sc f cdv A outer s H E) body (tInit ⟨K, ct⟩ nm E0 L)) :
    FnG P w K mg base CX0 (k + 1) f fd ps (spInitO ⟨K, ct⟩ nm ps.length fun ws S => noX (goI (startI N.length ws) L [] S)) := by
  obtain ⟨oc, od, dV, kV, doc, pm, an, cdv, cv, sl, rfl, lk, hcd, _, _⟩ := F.ex
  exact fnI_of lk hcd hS hps hL fun A outer s H E r gd => hb cdv A outer s H E r gd
end
/-! C(..) -/
theorem make_guards {A : Around} {C : Addr} {us : List Value} {kw : List (Str × Value)} : (A.under (.builtin "type.__call__" ⟨.ref C :: us, kw⟩)).guards = A.guards := by
  first | rfl | simp [Around.under, Code.weight, Code.isCreation, Code.isGuard, Code.isCaller, Code.frames, Code.isFrame, guardIds]
/-- the class nm, made by an __init__ that does gi -/
def CalleeI (P : Program) (w : World) (K : PySem.W.Frag) (mg : Str → Option Value) (base : Heap) (ct : Nat → Option Addr) (k : Nat) (nm : Str) (n : Nat) (gi : List W → Store → R (List (Str × W))) : Prop :=
  ∃ (f : Addr) (fd : FuncData) (ps : List Str), FnG P w K mg base CX0 k f fd ps (spInitO ⟨K, ct⟩ nm n gi) ∧ L2.Mk K (He.ga K nm) f ∧ mg nm = some (.ref (He.ga K nm)) ∧ Binds K fd ps []
def mkOb (nm : Str) (n : Nat) (gi : List W → Store → R (List (Str × W))) (ws : List W) (S : Store) : R W := if ws.length + 1 = n then (gi ws S).bind fun fs S2 => if locsBs S2.length (fs.map (·.2)) = true then .ok (.loc S2.length) (S2 ++ [.ob nm fs]) else .bad else .bad
def fMk (nm : Str) (n : Nat) (gi : List W → Store → R (List (Str × W))) (fa : FA) : FE := fun ρ S => (fa ρ S).bind fun ws S1 => mkOb nm n gi ws S1
section
variable {X : Cx} {ct : Nat → Option Addr} {E : EX} {k n : Nat} {nm : Str} {gi : List W → Store → R (List (Str × W))} {e : Expr} {es : List Expr} {p pos : Pos} {fa : FA}
theorem run_mk {C f : Addr} {fd : FuncData} {ps : List Str} {sp : Sp} {Z : XK} {pins : List (Addr × Obj)} {σ : L2.St} {H : Hp} {s : Shared} {Q : VK} {us : List Value} {vs : List V} (M : L2.Mk X.K C f) (F : FnG X.prog X.w X.K X.mg X.base CX0 k f fd ps sp) (hr : Room (k + 1) X.A) (gd : X.A.guards = some []) (hb : Binds X.K fd ps [])
    (I : Inv X pins σ H s) (r : Vals vs us)
    (h : ∀ x dx, H x = none → H dx = none → dx ≠ x → sp (.ref x :: vs) (upd (upd H dx (.own x)) x (.ins C dx [])) (fun v H2 => v = .non ∧ Q (.ref x) H2) Z) :
    wpAny (model X.prog X.w) X.A (call (.ref C) us) (EP X pins σ Q) X.xe s := by
  have hq := h (s.heap.objs.size + 1) s.heap.objs.size (I.hok.fresh (Nat.le_succ _)) (I.hok.fresh (Nat.le_refl _)) (Nat.ne_of_lt (Nat.lt_succ_self _))
  have I2 := Inv.made (C := C) I
  have r2 : Vals (V.ref (s.heap.objs.size + 1) :: vs) (Value.ref (s.heap.objs.size + 1) :: us) := .cons rfl r
  have hl : ((Value.ref (s.heap.objs.size + 1) :: us) ++ []).length = ps.length := by
    have e := r2.length
    rw [F.len _ _ _ _ hq] at e
    rw [List.append_nil]
    exact e.symm
  have bs := hb _ (Value.ref (s.heap.objs.size + 1) :: us) I2.kIn hl
  rw [List.append_nil] at bs
  refine wpAny_call (make_map (f := f) I.kIn M.makes M.init (beq_iff_eq.mp M.fn) (codeAny_mono (F.run _ X.stack _ _ ⟨Value.ref (s.heap.objs.size + 1) :: us, []⟩ (Value.ref (s.heap.objs.size + 1) :: us) _ _ Z (hr.make C us []) (by rw [make_guards]; exact gd)
    (I2.env0.make C us []) bs r2 hq) fun r s' hq' => ?_))
  cases r with
  | error e => exact hq'.elim
  | ok fl =>
    cases fl with
    | ret u =>
      obtain ⟨v, H', I3, rv, ev, q3⟩ := I2.after hq'
      subst ev
      exact ⟨rv, ⟨V.ref (s.heap.objs.size + 1), H', I3, rfl, q3⟩⟩
    | next => exact False.elim hq'
    | brk => exact False.elim hq'
    | cont => exact False.elim hq'
theorem run_mkOb (C : CalleeI X.prog X.w X.K X.mg X.base ct k nm n gi) (hr : Room (k + 1) X.A) (gd : X.A.guards = some []) {Z : XK} {η : List Addr} {S : Store} {ws : List W} {pins : List (Addr × Obj)} {σ : L2.St} {H : Hp} {s : Shared} {Q : VK} {us : List Value} {vs : List V} (I : Inv X pins σ H s) (r : Vals vs us)
    (rp : Rp X.K η H S) (rr : RepWs X.K η H ws vs) (h : FinP (gx X ct) Z η H (mkOb nm n gi ws S) Q) (hnx : ∀ c fs S', gi ws S ≠ .exc c fs S') : wpAny (model X.prog X.w) X.A (call (.ref (He.ga X.K nm)) us) (EP X pins σ Q) X.xe s := by
  obtain ⟨f, fd, ps, F, M, m, bn⟩ := C
  refine run_mk (Z := E0) M F hr gd bn I r fun x dx hx hd hne => ?_
  unfold mkOb at h
  by_cases hn : ws.length + 1 = n
  · rw [if_pos hn] at h
    have hd' : upd H dx (.own x) x = none := by rw [upd_ne (Ne.symm hne)]; exact hx
    have f1 : Fu η H η (upd H dx (.own x)) := fu_new hd
    have f2 : Fu η (upd H dx (.own x)) η (upd (upd H dx (.own x)) x (.ins (He.ga X.K nm) dx [])) := fu_new hd'
    refine ⟨η, H, η, S, x, dx, vs, ws, rfl, hn, f1.trans f2, hx, (rp.new hd).new hd', RepWs.fu (f1.trans f2) _ _ rr, upd_same, rp.notin hx, ?_⟩
    cases q : gi ws S with
    | bad => rw [q] at h; exact h.elim
    | exc c fs' S' => exact (hnx _ _ _ q).elim
    | ok fs' S' =>
      rw [q] at h
      intro η' H' vs' ff rp' hx' nx' e1 e2
      have h' : FinP (gx X ct) Z η H (if locsBs S'.length (fs'.map (·.2)) = true then .ok (.loc S'.length) (S' ++ [.ob nm fs']) else .bad) Q := h
      by_cases hl : locsBs S'.length (fs'.map (·.2)) = true
      · rw [if_pos hl] at h'
        -- the new instance goes live
        have ff2 : Fu η H (η' ++ [x]) H' := by
          obtain ⟨r, er⟩ := ff.px
          refine ⟨⟨r ++ [x], by rw [er, List.append_assoc]⟩, fun a m => ?_, ff.tk, ff.tp, ff.fz, ff.ls⟩
          rcases List.mem_append.mp m with m | m
          · exact ff.nw a m
          · rw [List.mem_singleton.mp m]; exact .inr hx
        have fx : Fw η' H' (η' ++ [x]) H' := by
          refine ⟨⟨[x], rfl⟩, fun a m => ?_, fun _ _ h => h, fun _ _ _ h => h, fun _ _ _ _ h => h⟩
          rcases List.mem_append.mp m with m | m
          · exact .inl m
          · rw [List.mem_singleton.mp m]
            refine .inr fun o i e => ?_
            rw [hx'] at e
            cases e
            exact i
        have rp2 : Rp X.K (η' ++ [x]) H' (S' ++ [.ob nm fs']) := by
          refine ⟨by rw [List.length_append, List.length_append, rp'.len]; rfl, ?_, fun l a so h1 h2 => ?_, fun l so h2 => ?_⟩
          · refine List.nodup_append.mpr ⟨rp'.nd, by simp, fun a ha b hb => ?_⟩
            rw [List.mem_singleton.mp hb]
            exact fun e => nx' (e ▸ ha)
          · by_cases hl2 : l < S'.length
            · rw [List.getElem?_append_left (by rw [rp'.len]; exact hl2)] at h1
              rw [List.getElem?_append_left hl2] at h2
              exact (rp'.all l a so h1 h2).fw fx fun u e => e
            · have e : l = S'.length := by
                have := (List.getElem?_eq_some_iff.mp h2).1
                rw [List.length_append] at this
                simp at this
                omega
              subst e
              rw [List.getElem?_append_right (by rw [rp'.len]; exact Nat.le_refl _), rp'.len] at h1
              rw [List.getElem?_append_right (Nat.le_refl _)] at h2
              simp at h1 h2
              subst h1 h2
              exact ⟨dx, vs', hx', e1, RepWs.fw fx e2⟩
          · by_cases hl2 : l < S'.length
            · rw [List.getElem?_append_left hl2] at h2
              exact rp'.wf l so h2
            · have e : l = S'.length := by
                have := (List.getElem?_eq_some_iff.mp h2).1
                rw [List.length_append] at this
                simp at this
                omega
              subst e
              rw [List.getElem?_append_right (Nat.le_refl _)] at h2
              simp at h2
              subst h2
              exact hl
        exact ⟨rfl, h' (η' ++ [x]) H' (.ref x) ff2 rp2 (.loc (by rw [← rp'.len]; simp))⟩
      · rw [if_neg hl] at h'; exact h'.elim
  · rw [if_neg hn] at h; exact h.elim
theorem noX_ne {α : Type} {r : R α} {c : Nat} {fs : List (Str × W)} {S : Store} : noX r ≠ .exc c fs S := by
  cases r <;> intro h <;> cases h
theorem cMk {gi : List W → Store → R (List (Str × W))} (C : CalleeI X.prog X.w X.K X.mg X.base ct k nm n gi) (hr : Room (k + 1) X.A) (gd : X.A.guards = some []) (hnx : ∀ ws S c fs S', gi ws S ≠ .exc c fs S') (ha : PA X (e :: es) (tA (gx X ct) E fa)) (hg : Gl X nm := by rfl) (hdb : (nm == ("__debug__" : Str)) = false := by decide)
    (he : starEach (e :: es) X.env = (false, eval e X.env) :: starEach es X.env := by rfl) (hpl : (backTo pos (starEach es X.env)).any (·.1) = false := by rfl) :
    PE X (.Call (.Name nm p) (e :: es) [] pos) (tF (gx X ct) E (fMk nm n gi fa)) := by
  have C' := C
  obtain ⟨f, fd, ps, F, M, m, bn⟩ := C'
  refine ⟨fun pins s σ H Q I ⟨η, ρ, S, rp, er, h⟩ => ?_⟩
  refine wpAny_Call_Name_kw (ld_glob I hg m ?_ hdb)
  refine PySem.W.callWith_K (h₀ := X.base) I.ok.mod.kin M.kp (thn (ha.run pos pins s σ H _ I ⟨η, ρ, S, rp, er, FinR.bind (rel := relL (gx X ct)) h⟩) fun us s1 ⟨vs, H1, I1, r, η1, ws, S1, f1, rp1, r1, h1⟩ => ⟨I1.kIn, ?_⟩) he hpl
  exact run_mkOb C hr gd I1 r rp1 r1 h1 (hnx ws S1)
theorem cMk0 {gi : List W → Store → R (List (Str × W))} (C : CalleeI X.prog X.w X.K X.mg X.base ct k nm n gi) (hr : Room (k + 1) X.A) (gd : X.A.guards = some []) (hnx : ∀ ws S c fs S', gi ws S ≠ .exc c fs S') (hg : Gl X nm := by rfl) (hdb : (nm == ("__debug__" : Str)) = false := by decide) :
    PE X (.Call (.Name nm p) [] [] pos) (tF (gx X ct) E (fMk nm n gi fA0)) := by
  have C' := C
  obtain ⟨f, fd, ps, F, M, m, bn⟩ := C'
  refine ⟨fun pins s σ H Q I ⟨η, ρ, S, rp, er, h⟩ => ?_⟩
  refine wpAny_Call_Name_kw (ld_glob I hg m ?_ hdb)
  have h1 : FinP (gx X ct) (E σ) η H (mkOb nm n gi [] S) Q := h
  exact PySem.W.callWith_K0 I.kIn M.kp (run_mkOb (us := []) C hr gd I .nil rp .nil h1 (hnx [] S))
end
/-- the class's facts -/
def InitAt (K : PySem.W.Frag) (mg : Str → Option Value) (nm qual : Str) (st : Stmt) : Prop := ∃ (f : Addr) (fd : FuncData), FunD K "__init__" qual (defArgs st) (defBody st) (defScope st) [] [] f fd ∧ L2.Mk K (He.ga K nm) f ∧ mg nm = some (.ref (He.ga K nm))
section
variable {P : Program} {w : World} {K : PySem.W.Frag} {mg : Str → Option Value} {base : Heap} {ct : Nat → Option Addr} {k n : Nat} {nm qual : Str} {st : Stmt} {N ps : List Str} {L : List (Str × FE)}
theorem spI_zero {G : Gc} {vs : List V} {H : Hp} {Q : VK} {E : XK} (h : spInitO G nm n (fun _ _ => R.bad) vs H Q E) : False := by
  obtain ⟨_, _, _, _, _, _, _, _, _, _, _, _, _, _, _, _, h⟩ := h
  exact h
theorem calleeI_zero (D : InitAt K mg nm qual st) (hB : BndM "__init__" qual st ps) : CalleeI P w K mg base ct k nm n (fun _ _ => R.bad) := by
  obtain ⟨f, fd, F, M, m⟩ := D
  exact ⟨f, fd, ps, ⟨fun vs H Q E h => (spI_zero h).elim, fun A outer s H args us vs Q E _ _ _ _ _ h => (spI_zero h).elim⟩, M, m, F.bindsN hB⟩
theorem calleeI_succ (D : InitAt K mg nm qual st) (hB : BndM "__init__" qual st ps) (hS : FnScope N ps (defScope st)) (hps : ps.length ≤ N.length) (hL : L.length < 900) (hn : ps.length = n)
    (h : ∀ (f : Addr) (cdv : Value) (A : Around) (outer : List Env) (s : Shared) (H : Hp) (E : XK), Room k (A.deeper (envOfC qual (defScope st) s.heap.objs.size f cdv)) → A.guards = some [] → PSs (bodyX P w K mg base N qual (defScope st) f cdv A outer s H E) (defBody st) (tInit ⟨K, ct⟩ nm E0 L)) :
    CalleeI P w K mg base ct (k + 1) nm n (fun ws S => noX (goI (startI N.length ws) L [] S)) := by
  obtain ⟨f, fd, F, M, m⟩ := D
  subst hn
  exact ⟨f, fd, ps, FunD.okI F hS hps hL fun cdv A outer s H E r gd => h f cdv A outer s H E r gd, M, m, F.bindsN hB⟩
end
end VI
set_option Elab.async false
set_option linter.all false
set_option maxRecDepth 100000
set_option maxHeartbeats 4000000
namespace VI
open PySem PySem.Spec PyProof.Rows L2

/-! one reading or another: what a reading comes to is told ahead -/
def orE (f g : FE) : FE := fun ρ S => match f ρ S with
  | .bad => g ρ S
  | r => r
def orS (f g : FS) : FS := fun ρ S => match f ρ S with
  | .bad => g ρ S
  | r => r
def orO2 (g h : W → W → Store → O) : W → W → Store → O := fun a b S => orO (g a b S) (h a b S)
section
variable {X : Cx} {ct : Nat → Option Addr} {E : EX}
theorem i_orE {e : Expr} {f g : FE} (h1 : PE X e (tF (gx X ct) E f)) (h2 : PE X e (tF (gx X ct) E g)) : PE X e (tF (gx X ct) E (orE f g)) := ⟨fun pins s σ H Q I ⟨η, ρ, S, rp, er, h⟩ => by
  unfold orE at h
  cases q : f ρ S with
  | bad => rw [q] at h; exact h2.run pins s σ H Q I ⟨η, ρ, S, rp, er, h⟩
  | ok w S' => rw [q] at h; exact h1.run pins s σ H Q I ⟨η, ρ, S, rp, er, by rw [q]; exact h⟩
  | exc c fs S' => rw [q] at h; exact h1.run pins s σ H Q I ⟨η, ρ, S, rp, er, by rw [q]; exact h⟩⟩
theorem s_or {e : Stmt} {f g : FS} (h1 : PS X e (tS (gx X ct) E f)) (h2 : PS X e (tS (gx X ct) E g)) : PS X e (tS (gx X ct) E (orS f g)) := ⟨fun pins s σ H D I ⟨η, ρ, S, rp, er, h⟩ => by
  unfold orS at h
  cases q : f ρ S with
  | bad => rw [q] at h; exact h2.run pins s σ H D I ⟨η, ρ, S, rp, er, h⟩
  | next _ _ => rw [q] at h; exact h1.run pins s σ H D I ⟨η, ρ, S, rp, er, by rw [q]; exact h⟩
  | ret _ _ => rw [q] at h; exact h1.run pins s σ H D I ⟨η, ρ, S, rp, er, by rw [q]; exact h⟩
  | brk _ _ => rw [q] at h; exact h1.run pins s σ H D I ⟨η, ρ, S, rp, er, by rw [q]; exact h⟩
  | cnt _ _ => rw [q] at h; exact h1.run pins s σ H D I ⟨η, ρ, S, rp, er, by rw [q]; exact h⟩
  | exc _ _ _ _ => rw [q] at h; exact h1.run pins s σ H D I ⟨η, ρ, S, rp, er, by rw [q]; exact h⟩⟩
/-- two values: one way or another -/
theorem i_or2 {e : Expr} {g g' : W → W → Store → O} {a b : FE} (h1 : PE X e (tF (gx X ct) E (f2 g a b))) (h2 : PE X e (tF (gx X ct) E (f2 g' a b))) : PE X e (tF (gx X ct) E (f2 (orO2 g g') a b)) := ⟨fun pins s σ H Q I ⟨η, ρ, S, rp, er, h⟩ => by
  have way : f2 (orO2 g g') a b ρ S = f2 g a b ρ S ∨ f2 (orO2 g g') a b ρ S = f2 g' a b ρ S := by
    unfold f2
    cases a ρ S with
    | bad => exact .inl rfl
    | exc _ _ _ => exact .inl rfl
    | ok x S1 =>
      simp only [R.bind]
      cases b ρ S1 with
      | bad => exact .inl rfl
      | exc _ _ _ => exact .inl rfl
      | ok y S2 =>
        simp only [orO2, orO]
        cases q : g x y S2 with
        | none => exact .inr rfl
        | some o => exact .inl rfl
  rcases way with z | z
  · rw [z] at h; exact h1.run pins s σ H Q I ⟨η, ρ, S, rp, er, h⟩
  · rw [z] at h; exact h2.run pins s σ H Q I ⟨η, ρ, S, rp, er, h⟩⟩
def gIxA : W → W → Store → O := orO2 gDget gIx
theorem i_ixA {a b : Expr} {fa fb : FE} {pos : Pos} (hu : X.A.units + 1 < cLine) (ha : PE X a (tF (gx X ct) E fa)) (hb : PE X b (tF (gx X ct) E fb)) (hn : NoSl b := by intro _ _; rfl) (hs : PlainIx b := by intro _ _; rfl) : PE X (.Subscript a b pos) (tF (gx X ct) E (f2 gIxA fa fb)) :=
  i_or2 (i_dgetL hu ha hb hn) (i_ix ha hb hs)
/-- +, to be changed later, of lists alone -/
def gAddLL : W → W → Store → O := fun a b S => match gAddL a b S with
  | some o => some o
  | none => gAdd a b S
theorem sim_addLL : OpR X (binaryOp .Add) (Sim2 X ct gAddLL) := OpR.orElse sim_addL sim_add
end
/-! xs[a:c] = ys -/
section
variable {X : Cx} {ct : Nat → Option Addr} {E : EX}
theorem pg_slice {o lo hi : Expr} {to tl th : TE} {pos p2 : Pos} (ho : PE X o to) (hl : PE X lo tl) (hh : PE X hi th)
    (ha : ∀ v, assign (.Subscript o (.Slice (some lo) (some hi) none p2) pos) X.env v = (do
      let ov ← holding [v] (eval o X.env)
      let iv ← holding [v, ov] (eval (.Slice (some lo) (some hi) none p2) X.env)
      standAt pos
      holding [v, ov, iv] (setItem ov iv v)
      release [iv, v, ov] []) := by intro _; rfl) : PG X (.Subscript o (.Slice (some lo) (some hi) none p2) pos) (fun v σ H Q => to σ H fun x H1 => tl σ H1 fun y H2 => th σ H2 fun z H3 =>
      ∃ (l b : Addr) (xs ys : List V) (a c : Int), x = .ref l ∧ v = .ref b ∧ y = .int a ∧ z = .int c ∧ H3 l = some (.lst xs) ∧ H3 b = some (.lst ys) ∧ l ≠ b ∧ 0 ≤ a ∧ a ≤ c ∧ c ≤ xs.length ∧ xs.length + ys.length ≤ sizeLine ∧ Q σ (upd H3 l (.lst (xs.take a.toNat ++ ys ++ xs.drop c.toNat)))) := by
  refine ⟨fun pins s σ H v u Q I r h => ?_⟩
  rw [ha]
  refine wpAny_bind (wpAny_holding (thn (ho.run pins s σ H _ I h) fun ov s1 ⟨x, H1, I1, r1, q1⟩ => ?_))
  refine wpAny_bind (wpAny_holding (wpAny_Slice ?_))
  rw [evalPart_some, evalPart_some]
  refine thn (hl.run pins s1 σ H1 _ I1 q1) fun vl s2 ⟨y, H2, I2, r2, q2⟩ => thn (hh.run pins s2 σ H2 _ I2 q2) fun vu s3 ⟨z, H3, I3, r3, q3⟩ => ?_
  rw [evalPart_none]
  refine wpAny_pure ?_
  have I4 : Inv X pins σ H3 { s3 with heap := s3.heap.push { cls := .type "slice", data := .fields #[vl, vu, .none] } } := I3.kept (t' := s3.toks) fun b ob q => Heap.get?_push_of_some _ q
  obtain ⟨l, b, xs, ys, a, c, rfl, rfl, rfl, rfl, k1, k2, k3, k4, k5, k6, k7, q4⟩ := q3
  cases r1
  cases r
  refine wpAny_bind (wpAny_standAt (wpAny_bind (wpAny_holding ?_)))
  exact set_slice I4 k1 k2 k3 (Heap.IsSliceOf.new ..) r2 r3 k4 k5 k6 k7 fun s' I' => wpAny_release ⟨σ, _, I', q4⟩
def gSetSl (o a c v : W) (S : Store) : Option Store := match o, a, c, v with
  | .loc l, .d (.int i), .d (.int j), .d (.list ys) => match S[l]? with
    | some (.lst xs) => if 0 ≤ i ∧ i ≤ j ∧ j ≤ xs.length ∧ xs.length + ys.length ≤ lim then some (S.set l (.lst (xs.take i.toNat ++ ys ++ xs.drop j.toNat))) else none
    | _ => none
  | _, _, _, _ => none
def fStoreSl (fv fo fl fh : FE) : FS := fun ρ S => toS ρ (fv ρ S) fun v S1 => toS ρ (fo ρ S1) fun o S2 => toS ρ (fl ρ S2) fun a S3 => toS ρ (fh ρ S3) fun c S4 => match gSetSl o a c v S4 with
  | some S5 => .next ρ S5
  | none => .bad
theorem setSl_key {K : PySem.W.Frag} {η : List Addr} {H : Hp} {S S' : Store} {wo wa wc wv : W} {o a c v : V} {P : Hp → Prop} (e : gSetSl wo wa wc wv S = some S') (rp : Rp K η H S) (ro : RepW K η H wo o) (ra : RepW K η H wa a) (rc : RepW K η H wc c) (rv : RepW K η H wv v)
    (h : ∀ η' H', Fu η H η' H' → Rp K η' H' S' → P H') : ∃ (l b : Addr) (xs ys : List V) (i j : Int), o = .ref l ∧ v = .ref b ∧ a = .int i ∧ c = .int j ∧ H l = some (.lst xs) ∧ H b = some (.lst ys) ∧ l ≠ b ∧ 0 ≤ i ∧ i ≤ j ∧ j ≤ xs.length ∧ xs.length + ys.length ≤ sizeLine ∧ P (upd H l (.lst (xs.take i.toNat ++ ys ++ xs.drop j.toNat))) := by
  cases wo with
  | loc l =>
    cases wa with
    | d wa =>
      cases wc with
      | d wc =>
        cases wv with
        | d wv =>
          cases ra with
          | d ra =>
            cases rc with
            | d rc =>
              cases rv with
              | d rv =>
                cases ro with
                | loc ro =>
                  cases ra with
                  | int i =>
                    cases rc with
                    | int j =>
                      cases rv with
                      | list g1 g2 g3 =>
                        cases q : S[l]? with
                        | none => simp only [gSetSl, q] at e; cases e
                        | some so =>
                          cases so with
                          | lst xs =>
                            simp only [gSetSl, q] at e
                            split at e
                            · rename_i hc
                              cases e
                              obtain ⟨vs, k1, k2⟩ := rp.all _ _ _ ro q
                              have m := List.mem_of_getElem? ro
                              have hz : vs.length = xs.length := k2.length.symm
                              refine ⟨_, _, vs, _, i, j, rfl, rfl, rfl, rfl, k1, g1, fun e => g2 (e ▸ m), hc.1, hc.2.1, by rw [hz]; exact hc.2.2.1, lim_ok (by rw [hz, ← g3.length]; exact hc.2.2.2), ?_⟩
                              have f : ∀ o, Fu η H η (upd H _ o) := fun o => fu_write m k1 (o := o) trivial
                              exact h η _ (f _) (rp.write ro ⟨_, upd_same, RepDs.fu (f _) _ _ (((k2.take _).append g3).append (k2.drop _))⟩)
                            · cases e
                          | dK _ => simp only [gSetSl, q] at e; cases e
                          | dT _ => simp only [gSetSl, q] at e; cases e
                          | ob _ _ => simp only [gSetSl, q] at e; cases e
                      | _ => cases e
                    | _ => cases e
                  | _ => cases e
        | _ => unfold gSetSl at e; split at e <;> first | cases e | simp_all
      | _ => unfold gSetSl at e; split at e <;> first | cases e | simp_all
    | _ => unfold gSetSl at e; split at e <;> first | cases e | simp_all
  | _ => unfold gSetSl at e; split at e <;> first | cases e | simp_all
theorem s_storeSl {o lo hi e : Expr} {pos p2 pos' : Pos} {fo fl fh fe : FE} (he : PE X e (tF (gx X ct) E fe)) (ho : PE X o (tF (gx X ct) E fo)) (hl : PE X lo (tF (gx X ct) E fl)) (hh : PE X hi (tF (gx X ct) E fh))
    (ha : ∀ v, assign (.Subscript o (.Slice (some lo) (some hi) none p2) pos') X.env v = (do
      let ov ← holding [v] (eval o X.env)
      let iv ← holding [v, ov] (eval (.Slice (some lo) (some hi) none p2) X.env)
      standAt pos'
      holding [v, ov, iv] (setItem ov iv v)
      release [iv, v, ov] []) := by intro _; rfl) (hs : swapsWithSole [.Subscript o (.Slice (some lo) (some hi) none p2) pos'] e pos.line X.env = pure false := by rfl) (hw : swappedStores [.Subscript o (.Slice (some lo) (some hi) none p2) pos'] e X.env = pure none := by rfl)
    (h1 : (assignEach [.Subscript o (.Slice (some lo) (some hi) none p2) pos'] X.env).map (·.2) = [assign (.Subscript o (.Slice (some lo) (some hi) none p2) pos') X.env] := by rfl) :
    PS X (.Assign [.Subscript o (.Slice (some lo) (some hi) none p2) pos'] e pos) (tS (gx X ct) E (fStoreSl fe fo fl fh)) := PSw (ps_asg he (pg_slice ho hl hh ha) hs hw h1) fun D σ H ⟨η, ρ, S, rp, er, h⟩ =>
  ⟨η, ρ, S, rp, er, FinR.mono (FinS.bind er h) fun v H1 ⟨η1, w, S1, f1, rp1, r1, h1⟩ =>
    ⟨η1, ρ, S1, rp1, er.fu f1, FinR.mono (FinS.bind (er.fu f1) h1) fun x H2 ⟨η2, wo, S2, f2, rp2, r2, h2⟩ =>
      ⟨η2, ρ, S2, rp2, (er.fu f1).fu f2, FinR.mono (FinS.bind ((er.fu f1).fu f2) h2) fun y H3 ⟨η3, wa, S3, f3, rp3, r3, h3⟩ =>
        ⟨η3, ρ, S3, rp3, ((er.fu f1).fu f2).fu f3, FinR.mono (FinS.bind (((er.fu f1).fu f2).fu f3) h3) fun z H4 ⟨η4, wc, S4, f4, rp4, r4, h4⟩ => by
          have er4 := (((er.fu f1).fu f2).fu f3).fu f4
          have rv := RepW.fu f4 _ _ (RepW.fu f3 _ _ (RepW.fu f2 _ _ r1))
          have ro := RepW.fu f4 _ _ (RepW.fu f3 _ _ r2)
          have ra := RepW.fu f4 _ _ r3
          cases q : gSetSl wo wa wc w S4 with
          | none => simp only [q] at h4; exact h4.elim
          | some S5 =>
            simp only [q] at h4
            obtain ⟨l, b, xs, ys, i, j, a1, a2, a3, a4, a5, a6, a7, a8, a9, a10, a11, a12⟩ := setSl_key (P := fun H' => D.nx σ H') q rp4 ro ra r4 rv fun η' H' f rp' => h4 η' H' σ f rp' (er4.fu f)
            exact ⟨l, b, xs, ys, i, j, a1, a2, a3, a4, a5, a6, a7, a8, a9, a10, a11, a12⟩⟩⟩⟩⟩
end
/-! tuple * int, any int -/
theorem tuple_mul0 (l : Addr) (items : Array Value) (n : Nat) (dd : Option Addr) (sl : Array (Option Value)) (x : Int) (u : Tok) (c0 : (decide (x < -(2 ^ 63)) || decide (x ≥ 2 ^ 63)) = false) (c1 : (items.isEmpty || x == 1) = false) (c2 : (decide (x ≤ 0) || items.isEmpty) = true) :
    Meets (Builtin.«tuple.__mul__» ⟨[.ref l, .int x u], []⟩) (fun _ R s => s.heap.get? l = some { cls := .type "tuple", dict := dd, data := .seq items n, slots := sl } ∧
      R (.ok (.ret (Value.ref s.heap.objs.size))) { s with heap := s.heap.push { cls := Value.type "tuple", data := Data.seq #[] }, toks := s.toks }) :=
  .of_wp fun prog w A R s h => by
    obtain ⟨hp, g, d, tk, os⟩ := s
    obtain ⟨hl, h⟩ := h
    have f1 := AutoSeq1.idx_int
    wp_walk using wpAny_loadPart' hl
    repeat (first
      | (refine wpAny_ite_false (decide_eq_false (by rw [c0]; exact Bool.false_ne_true)) ?_; wp_walk using wpAny_loadPart' hl)
      | (refine wpAny_ite_false (decide_eq_false (by rw [c1]; exact Bool.false_ne_true)) ?_; wp_walk using wpAny_loadPart' hl)
      | (refine wpAny_ite_true (decide_eq_true (by rw [c2])) ?_; wp_walk using wpAny_loadPart' hl))
    exact ⟨_, rfl, h⟩
section
variable {X : Cx} {ct : Nat → Option Addr}
theorem op_repTA : OpR X (binaryOp .Mult) (fun x y H Q => ∃ l k xs, x = .ref l ∧ y = .int k ∧ SqT X.K H l xs ∧ xs ≠ [] ∧ 2 ≤ k ∧ xs.length * k.toNat ≤ 1000000 ∧ ∀ p, H p = none → Q (.ref p) (upd H p (.tup (List.replicate k.toNat xs).flatten))) := by
  intro pins s σ H x y v u Q I rx ry h
  obtain ⟨l, k, xs, rfl, rfl, hT, hne, h1, hz, q⟩ := h
  cases rx
  obtain ⟨t, rfl⟩ := ry
  obtain ⟨its, r, ⟨⟨cls, dd, data, sl⟩, ho, hc, n, hd⟩, hs⟩ := I.tuple hT
  simp only at hc hd
  subst hc hd
  have hle : its.length = xs.length := r.length.symm
  have hpos : 0 < xs.length := List.length_pos_iff.mpr hne
  have hn : its ≠ [] := fun e => hne (by
    rw [e] at hle
    exact List.eq_nil_of_length_eq_zero hle.symm)
  have hi : its.toArray.isEmpty = false := by
    cases its with
    | nil => exact absurd rfl hn
    | cons a b => rfl
  have hsz0 : its.toArray.size = xs.length := by rw [List.size_toArray, hle]
  have hk : k.toNat ≤ 1000000 := Nat.le_trans (Nat.le_mul_of_pos_left _ hpos) hz
  have hm : ((its.toArray.size : Nat) : Int) * k ≤ 1000000 := by
    rw [hsz0]
    have a1 : ((xs.length : Nat) : Int) * k = ((xs.length * k.toNat : Nat) : Int) := by
      rw [Int.natCast_mul, Int.toNat_of_nonneg (by omega)]
    rw [a1]
    omega
  have flen : (List.replicate k.toNat its).flatten.length ≤ sizeLine := by
    rw [PyProof.Rows.lm_len_rep_flat, hle, sizeLine_eq, Nat.mul_comm]
    omega
  have c0 : (decide (k < -(2 ^ 63)) || decide (k ≥ 2 ^ 63)) = false := by
    rw [decide_eq_false (by omega), decide_eq_false (by omega)] <;> rfl
  have c1 : (its.toArray.isEmpty || k == 1) = false := by
    rw [hi, Bool.false_or]
    exact beq_eq_false_iff_ne.mpr (by omega)
  have c2 : (decide (k ≤ 0) || its.toArray.isEmpty) = false := by
    rw [hi, Bool.or_false]
    exact decide_eq_false (by omega)
  have c4 : Builtin.Tuple.tupleTooMany (((its.toArray.size : Nat) : Int) * k) = false := by
    unfold Builtin.Tuple.tupleTooMany
    rw [sizeLine_eq]
    exact decide_eq_false (by omega)
  refine wpAny_binaryOp_repeat_ref (T := "tuple") (U := "int") (by decide) ⟨_, ho, rfl⟩ (fun s' => typeIs_int s' k t) noFill_tuple_mul F.fills_int_mul F.slot_int_rmul repeat_tuple F.slot_int_index.lookup
    (call_meets F.slot_int_rmul (typeIs_int s k t) F.entry_int_rmul (F.args_int_rmul_2 _ _) (int_rmul_tuple k t l its.toArray n dd sl)
      ⟨ho, rfl, ⟨_, ho, rfl⟩, call_meets F.slot_tuple_mul ⟨_, ho, rfl⟩ F.entry_tuple_mul (F.args_tuple_mul_2 _ _) (tuple_mulW l its.toArray n dd sl k t c0 c1 c2 (by omega) c4 (by rw [size_rep, List.size_toArray]; exact flen)) ⟨ho, ?_⟩⟩)
  rw [size_rep]
  refine ⟨.ref s.heap.objs.size, _, I.laid (t' := s.toks) (o := .tup (List.replicate k.toNat xs).flatten) (fun b ob q => Heap.get?_push_of_some _ q) (Nat.le_refl _) ?_, rfl, q _ (I.hok.fresh (Nat.le_refl _))⟩
  exact ⟨by rw [PyProof.Rows.lm_len_rep_flat, sizeLine_eq, Nat.mul_comm]; omega, _, r.rep k.toNat, IsTup.new _ _⟩
theorem op_repT0 : OpR X (binaryOp .Mult) (fun x y H Q => ∃ l k xs, x = .ref l ∧ y = .int k ∧ SqT X.K H l xs ∧ xs ≠ [] ∧ k ≤ 0 ∧ -(2 ^ 63) ≤ k ∧ ∀ p, H p = none → Q (.ref p) (upd H p (.tup []))) := by
  intro pins s σ H x y v u Q I rx ry h
  obtain ⟨l, k, xs, rfl, rfl, hT, hne, h1, h2, q⟩ := h
  cases rx
  obtain ⟨t, rfl⟩ := ry
  obtain ⟨its, r, ⟨⟨cls, dd, data, sl⟩, ho, hc, n, hd⟩, hs⟩ := I.tuple hT
  simp only at hc hd
  subst hc hd
  have hle : its.length = xs.length := r.length.symm
  have hn : its ≠ [] := fun e => hne (by
    rw [e] at hle
    exact List.eq_nil_of_length_eq_zero hle.symm)
  have hi : its.toArray.isEmpty = false := by
    cases its with
    | nil => exact absurd rfl hn
    | cons a b => rfl
  have c0 : (decide (k < -(2 ^ 63)) || decide (k ≥ 2 ^ 63)) = false := by
    rw [decide_eq_false (by omega), decide_eq_false (by omega)] <;> rfl
  have c1 : (its.toArray.isEmpty || k == 1) = false := by
    rw [hi, Bool.false_or]
    exact beq_eq_false_iff_ne.mpr (by omega)
  have c2 : (decide (k ≤ 0) || its.toArray.isEmpty) = true := by
    rw [decide_eq_true h1]
    rfl
  refine wpAny_binaryOp_repeat_ref (T := "tuple") (U := "int") (by decide) ⟨_, ho, rfl⟩ (fun s' => typeIs_int s' k t) noFill_tuple_mul F.fills_int_mul F.slot_int_rmul repeat_tuple F.slot_int_index.lookup
    (call_meets F.slot_int_rmul (typeIs_int s k t) F.entry_int_rmul (F.args_int_rmul_2 _ _) (int_rmul_tuple k t l its.toArray n dd sl)
      ⟨ho, rfl, ⟨_, ho, rfl⟩, call_meets F.slot_tuple_mul ⟨_, ho, rfl⟩ F.entry_tuple_mul (F.args_tuple_mul_2 _ _) (tuple_mul0 l its.toArray n dd sl k t c0 c1 c2) ⟨ho, ?_⟩⟩)
  refine ⟨.ref s.heap.objs.size, _, I.laid (t' := s.toks) (o := .tup []) (fun b ob q => Heap.get?_push_of_some _ q) (Nat.le_refl _) ?_, rfl, q _ (I.hok.fresh (Nat.le_refl _))⟩
  exact ⟨Nat.zero_le _, [], .nil, IsTup.new _ _⟩
def gRepTA (a b : W) (S : Store) : O := match a, b with
  | .d (.tuple xs), .d (.int k) => if xs ≠ [] ∧ 2 ≤ k ∧ xs.length * k.toNat ≤ 1000000 then some (.d (.tuple (List.replicate k.toNat xs).flatten), S) else none
  | _, _ => none
def gRepT0 (a b : W) (S : Store) : O := match a, b with
  | .d (.tuple xs), .d (.int k) => if xs ≠ [] ∧ k ≤ 0 ∧ -(2 ^ 63) ≤ k then some (.d (.tuple []), S) else none
  | _, _ => none
theorem sim_repTA : OpR X (binaryOp .Mult) (Sim2 X ct gRepTA) := OpR.fit op_repTA fun x y H Q ⟨η, S, wx, wy, rp, rx, ry, h⟩ => by
  unfold gRepTA at h
  split at h
  · split at h
    · rename_i hk
      cases rx with
      | d rx =>
        cases ry with
        | d ry =>
          cases ry
          cases rx with
          | tuple h1 h2 =>
            have hl := h2.length
            refine ⟨_, _, _, rfl, rfl, h1, fun e => hk.1 ?_, hk.2.1, by rw [← hl]; exact hk.2.2, new_tup rp (rep_rep h2 _) h⟩
            rw [e] at hl
            exact List.eq_nil_of_length_eq_zero hl
    · exact h.elim
  · exact h.elim
theorem sim_repT0 : OpR X (binaryOp .Mult) (Sim2 X ct gRepT0) := OpR.fit op_repT0 fun x y H Q ⟨η, S, wx, wy, rp, rx, ry, h⟩ => by
  unfold gRepT0 at h
  split at h
  · split at h
    · rename_i hk
      cases rx with
      | d rx =>
        cases ry with
        | d ry =>
          cases ry
          cases rx with
          | tuple h1 h2 =>
            have hl := h2.length
            refine ⟨_, _, _, rfl, rfl, h1, fun e => hk.1 ?_, hk.2.1, hk.2.2, new_tup rp .nil h⟩
            rw [e] at hl
            exact List.eq_nil_of_length_eq_zero hl
    · exact h.elim
  · exact h.elim
/-- a list so many times: anew, or to be changed later -/
def gRepL (a b : W) (S : Store) : O := match asL a S, b with
  | some xs, .d (.int k) => if -(2 ^ 63) ≤ k ∧ k < 2 ^ 63 ∧ xs.length * k.toNat ≤ lim then some (.d (.list (List.replicate k.toNat xs).flatten), S) else none
  | _, _ => none
def gRepLL (a b : W) (S : Store) : O := match asL a S, b with
  | some xs, .d (.int k) => if -(2 ^ 63) ≤ k ∧ k < 2 ^ 63 ∧ xs.length * k.toNat ≤ lim then some (.loc S.length, S ++ [.lst (List.replicate k.toNat xs).flatten]) else none
  | _, _ => none
theorem sim_repL : OpR X (binaryOp .Mult) (Sim2 X ct gRepL) := OpR.fit op_rep fun x y H Q ⟨η, S, wx, wy, rp, rx, ry, h⟩ => by
  unfold gRepL at h
  split at h
  · rename_i xs k e1
    obtain ⟨a, vs, rfl, h1, h2⟩ := asL_ok e1 rp rx
    split at h
    · rename_i hk
      cases ry with
      | d ry =>
        cases ry
        exact ⟨a, _, vs, rfl, rfl, h1, hk.1, hk.2.1, lim_ok (by rw [← h2.length]; exact hk.2.2), new_list rp (rep_rep h2 _) h⟩
    · exact h.elim
  · exact h.elim
theorem sim_repLL : OpR X (binaryOp .Mult) (Sim2 X ct gRepLL) := OpR.fit op_rep fun x y H Q ⟨η, S, wx, wy, rp, rx, ry, h⟩ => by
  unfold gRepLL at h
  split at h
  · rename_i xs k e1
    obtain ⟨a, vs, rfl, h1, h2⟩ := asL_ok e1 rp rx
    split at h
    · rename_i hk
      cases ry with
      | d ry =>
        cases ry
        exact ⟨a, _, vs, rfl, rfl, h1, hk.1, hk.2.1, lim_ok (by rw [← h2.length]; exact hk.2.2), new_live rp (rep_rep h2 _) h⟩
    · exact h.elim
  · exact h.elim
/-- a product of any sort -/
def gMulC (a b : W) (S : Store) : O := match gRep1 a b S with
  | some o => some o
  | none => match gRepTA a b S with
    | some o => some o
    | none => match gRepT0 a b S with
      | some o => some o
      | none => match gRepL a b S with
        | some o => some o
        | none => gMulA a b S
theorem sim_mulC : OpR X (binaryOp .Mult) (Sim2 X ct gMulC) := OpR.orElse sim_rep1 (OpR.orElse sim_repTA (OpR.orElse sim_repT0 (OpR.orElse sim_repL sim_mulA)))
def gMulL (a b : W) (S : Store) : O := match gRepLL a b S with
  | some o => some o
  | none => gMulC a b S
theorem sim_mulL : OpR X (binaryOp .Mult) (Sim2 X ct gMulL) := OpR.orElse sim_repLL sim_mulC
end
end VI
set_option Elab.async false
set_option linter.all false
set_option maxRecDepth 100000
namespace VI
open PySem PySem.Spec PyProof.Rows L2

/-! sorted(d): keys that are ints, any number of them; keys that are texts, below 64 -/
section
variable {X : Cx} {ct : Nat → Option Addr} {E : EX}
theorem call_sortedDA (hcalm : X.calm = true) : CallR X (.builtin "sorted") (fun xs H Q => ∃ (a : Addr) (kvs : List (Key × V)) (ks : List Int), xs = [.ref a] ∧ H a = some (.dK kvs) ∧ kvs.map (·.1) = ks.map Sum.inl ∧
    ∀ (ys : List Int) (p : Addr), ys.Perm ks → ys.Pairwise (· ≤ ·) → H p = none → Q (.ref p) (upd H p (.lst (ys.map V.int)))) := by
  intro pins s σ H xs us Q I r q
  obtain ⟨a, kvs, ks, ex, hd, hks, q⟩ := q
  subst ex
  obtain ⟨u, eu, rx⟩ := vals1 r
  subst eu
  cases rx
  obtain ⟨z, lo, vs, rel, dd⟩ := dk_of I.hok hd
  obtain ⟨ep, hat⟩ := dd.dictAt
  have hkeys : vs.map (·.1) = ks.map Sum.inl := rel.keys.symm.trans hks
  have hl : vs.length = ks.length := by
    have e := congrArg List.length hkeys
    rw [List.length_map, List.length_map] at e
    exact e
  have h16 : vs.length ≤ sizeLine := by rw [← rel.length]; exact z
  refine Calls.call_function_entry PyProof.Rows.kind_sorted PyProof.Rows.plain_sorted PyProof.Rows.entry_sorted (PyProof.Rows.args_sorted1 _) ?_
  unfold Builtin.«sorted»
  refine wpAny_bind (m := checkCount "sorted" 1 1 _) (wpAny_pure ?_)
  refine wpAny_bind (PySem.W.kdu_collect (A := X.A.in1) (PySem.W.kdl_dict (knd := mixKind X.prog X.w) (kvs := vs) (ep := ep) lo) (I.ok.hd hcalm) hat h16 fun h' tk acc hk hacc => ?_)
  have hal : acc.toList.length = ks.length := by rw [Array.length_toList, hacc.1, hl]
  have hS : IntsAre acc.toList ks := ints_each hal fun j v e => by
    obtain ⟨k, x, e1, e2⟩ := hacc.2 j v (by rw [← Array.getElem?_toList]; exact e)
    have e3 : (vs.map (·.1))[j]? = some k := by rw [List.getElem?_map, e1]; rfl
    rw [hkeys, List.getElem?_map] at e3
    cases e4 : ks[j]? with
    | none => rw [e4] at e3; cases e3
    | some y =>
      rw [e4] at e3
      have e5 : Sum.inl y = k := Option.some.inj e3
      subst e5
      rcases keyIs_shape (show keyIs (Sum.inl y) v = true from e2) with ⟨i, t, ek, ev⟩ | ⟨z, t, ek, ev⟩
      · cases ek
        exact ⟨y, t, rfl, ev⟩
      · cases ek
  have I1 : Inv X pins σ H { s with heap := h', toks := tk } := I.kept hk
  have hz : acc.toList.length ≤ sizeLine := by rw [hal, ← hl]; exact h16
  refine wpAny_bind (wpAny_newList ?_ hz)
  have hoL : (h'.push (seqObj "list" acc.toList.toArray 0)).get? h'.objs.size = some (seqObj "list" acc.toList.toArray 0) := Heap.get?_push_size _ rfl
  show wpAny _ _ _ _ _ { s with heap := h'.push (seqObj "list" acc.toList.toArray 0), toks := tk }
  refine wpAny_bind (wpAny_holding (wpAny_call_entry PyProof.Rows.slot_list_sort ⟨_, hoL, rfl⟩ PyProof.Rows.entry_list_sort
    (SrtO.list_sort_ord (s := { s with heap := h'.push (seqObj "list" acc.toList.toArray 0), toks := tk }) SrtO.swo_int hoL hz (fun h2 => SrtO.ints_sortable hS h2) fun out h1 h2 => ⟨_, rfl, ?_⟩) (PyProof.Rows.args_list_sort _)))
  obtain ⟨k1, k2, k3⟩ := SrtO.ints_out hS h1 h2
  obtain ⟨e', he'⟩ := PyProof.Rows.sortedHeap_at (vs := acc.toList) (out := out.toArray) hoL
  have hlen : ((out.map SrtO.iv).map V.int).length ≤ sizeLine := by
    rw [List.length_map, k2.length_eq, ← hl]
    exact h16
  refine wpAny_pure ⟨_, rfl, .ref h'.objs.size, upd H h'.objs.size (.lst ((out.map SrtO.iv).map V.int)), I1.laid (t' := tk) (fun b u e => ?_) (Nat.le_refl _)
    (show ObjOk X.prog X.w _ _ _ (.lst ((out.map SrtO.iv).map V.int)) from ⟨hlen, out, e', vals_of_ints k1, he'⟩), rfl, q _ _ k2 k3 (I1.hok.fresh (Nat.le_refl _))⟩
  have hb : b < h'.objs.size := Heap.lt_size e
  rw [PyProof.Rows.sortedHeap_old (Nat.ne_of_lt hb) (by rw [size_push']; exact Nat.lt_succ_of_lt hb)]
  exact Heap.get?_push_of_some _ e
def intKeys : List (Key × PyData) → Option (List Int)
  | [] => some []
  | (.inl i, _) :: r => (intKeys r).map (i :: ·)
  | _ :: _ => none
theorem intKeys_ok : ∀ {kvs : List (Key × PyData)} {is : List Int}, intKeys kvs = some is → kvs.map (·.1) = is.map Sum.inl
  | [], is, e => by cases e; rfl
  | (.inl i, v) :: r, is, e => by
    rw [intKeys] at e
    cases q : intKeys r with
    | none => rw [q] at e; cases e
    | some js => rw [q] at e; cases e; rw [List.map_cons, intKeys_ok q]; rfl
  | (.inr _, _) :: _, is, e => by cases e
def txtKeys : List (Key × PyData) → Option (List Str)
  | [] => some []
  | (.inr x, _) :: r => (txtKeys r).map (x :: ·)
  | _ :: _ => none
theorem txtKeys_ok : ∀ {kvs : List (Key × PyData)} {is : List Str}, txtKeys kvs = some is → kvs.map (·.1) = is.map Sum.inr
  | [], is, e => by cases e; rfl
  | (.inr i, v) :: r, is, e => by
    rw [txtKeys] at e
    cases q : txtKeys r with
    | none => rw [q] at e; cases e
    | some js => rw [q] at e; cases e; rw [List.map_cons, txtKeys_ok q]; rfl
  | (.inl _, _) :: _, is, e => by cases e
end
def srtI (zs : List Int) : List Int := zs.mergeSort fun a b => decide (a ≤ b)
theorem srtI_eq {ys zs : List Int} (hp : ys.Perm zs) (hs : ys.Pairwise (· ≤ ·)) : ys = srtI zs := by
  have h2 : (srtI zs).Pairwise (· ≤ ·) := by
    have := List.pairwise_mergeSort (le := fun a b : Int => decide (a ≤ b)) (fun a b c h1 h2 => by rw [decide_eq_true_eq] at *; omega) (fun a b => by rw [Bool.or_eq_true, decide_eq_true_eq, decide_eq_true_eq]; omega) zs
    exact this.imp fun h => of_decide_eq_true h
  exact List.Perm.eq_of_pairwise (fun a b _ _ h1 h2 => Int.le_antisymm h1 h2) hs h2 (hp.trans (List.mergeSort_perm zs _).symm)
def gSortI (ws : List W) (S : Store) : O := match ws with
  | [w] => match asLst w S with
    | some xs => match intsD xs with
      | some ns => some (.d (.list ((srtI ns).map .int)), S)
      | none => none
    | none => none
  | _ => none
theorem repD_ints {K : PySem.W.Frag} {η : List Addr} {H : Hp} : ∀ ns : List Int, RepDs K η H (ns.map PyData.int) (ns.map V.int)
  | [] => .nil
  | i :: r => .cons (.int i) (repD_ints r)
theorem repD_strs {K : PySem.W.Frag} {η : List Addr} {H : Hp} : ∀ ns : List Str, RepDs K η H (ns.map PyData.str) (ns.map V.str)
  | [] => .nil
  | i :: r => .cons (.str i) (repD_strs r)
section
variable {X : Cx} {ct : Nat → Option Addr} {E : EX}
theorem c_sortI : CallR X (.builtin "sorted") (SimL X ct gSortI) := CallR.fit cr_sortedI fun xs H Q ⟨η, S, ws, rp, rr, q⟩ => by
  unfold gSortI at q
  split at q
  · obtain ⟨v, rfl, r⟩ := repWs1 rr
    split at q
    · rename_i xs e
      obtain ⟨a, vs, rfl, h1, h2⟩ := asLst_ok e rp r
      split at q
      · rename_i ns e2
        have := intsD_ok e2 h2
        subst this
        refine ⟨a, ns, rfl, h1, fun ns' p hp hs hn => ?_⟩
        rw [srtI_eq hp hs]
        exact new_list rp (repD_ints _) q p hn
      · exact q.elim
    · exact q.elim
  · exact q.elim
/-- sorted(d) -/
def gSortDk (ws : List W) (S : Store) : O := match ws with
  | [w] => match asDk w S with
    | some kvs => match intKeys kvs with
      | some is => some (.d (.list ((srtI is).map .int)), S)
      | none => match txtKeys kvs with
        | some xs => if xs.length < 64 then some (.d (.list ((srtS xs).map .str)), S) else none
        | none => none
    | none => none
  | _ => none
theorem c_sortDk (hc : X.calm = true) : CallR X (.builtin "sorted") (SimL X ct gSortDk) := CallR.fit (CallR.or (call_sortedDA hc) (call_sortedD hc)) fun xs H Q ⟨η, S, ws, rp, rr, q⟩ => by
  unfold gSortDk at q
  split at q
  · obtain ⟨v, rfl, r⟩ := repWs1 rr
    split at q
    · rename_i kvs e
      obtain ⟨a, vs, rfl, h1, h2, h3⟩ := asDk_ok e rp r
      split at q
      · rename_i is e2
        refine .inl ⟨a, vs, is, rfl, h1, by rw [← h2]; exact intKeys_ok e2, fun ys p hp hs hn => ?_⟩
        rw [srtI_eq hp hs]
        exact new_list rp (repD_ints _) q p hn
      · split at q
        · rename_i ks e2
          split at q
          · rename_i hz
            refine .inr ⟨a, vs, ks, rfl, .inl h1, by rw [← h2]; exact txtKeys_ok e2, hz, fun ys p hp hs hn => ?_⟩
            rw [srtS_eq hp hs]
            exact new_list rp (repD_strs _) q p hn
          · exact q.elim
        · exact q.elim
    · exact q.elim
  · exact q.elim
/-- sorted(..), of any sort -/
def gSortX (ws : List W) (S : Store) : O := orO (gSortA ws S) (orO (gSortI ws S) (gSortDk ws S))
theorem c_sortX (hc : X.calm = true) (hr : X.A.units + 64 < cLine) : CallR X (.builtin "sorted") (SimL X ct gSortX) := CallR.orO (c_sortedA hr) (CallR.orO c_sortI (c_sortDk hc))
end
/-! tuple(range(a, b, c)) -/
def gTupRng (ws : List W) (S : Store) : O := match ws with
  | [.d (.int i), .d (.int j), .d (.int c)] => if c ≠ 0 ∧ c.natAbs < 1073741824 ∧ Builtin.Range.small i j c = true ∧ Builtin.Range.rangeSize i j c = ((Builtin.Range.rangeSize i j c).toNat : Int) ∧ (Builtin.Range.rangeSize i j c).toNat ≤ 16777216 then
      some (.d (.tuple ((List.range (Builtin.Range.rangeSize i j c).toNat).map fun k => .int (i + (k : Nat) * c))), S) else none
  | _ => none
theorem rng_rep {K : PySem.W.Frag} {η : List Addr} {H : Hp} (i c : Int) : ∀ l : List Nat, RepDs K η H (l.map fun k => .int (i + (k : Nat) * c)) (l.map fun k => V.int (i + (k : Nat) * c))
  | [] => .nil
  | k :: r => .cons (.int _) (rng_rep i c r)
section
variable {X : Cx} {ct : Nat → Option Addr} {E : EX}
theorem i_tupRng {a b c : Expr} {fa : FA} {p p2 pos pos2 : Pos} (hc : X.calm = true) (hg : Gl X "tuple") (hm : X.mg "tuple" = none) (hg2 : Gl X "range") (hm2 : X.mg "range" = none) (ha : PA X [a, b, c] (tA (gx X ct) E fa))
    (hs : starEach [a, b, c] X.env = (false, eval a X.env) :: starEach [b, c] X.env := by rfl) (hpl : (backTo pos2 (starEach [b, c] X.env)).any (·.1) = false := by rfl)
    (na : starEach [.Call (.Name "range" p2) [a, b, c] [] pos2] X.env = (false, eval (.Call (.Name "range" p2) [a, b, c] [] pos2) X.env) :: starEach [] X.env := by rfl) :
    PE X (.Call (.Name "tuple" p) [.Call (.Name "range" p2) [a, b, c] [] pos2] [] pos) (tF (gx X ct) E (fL gTupRng fa)) := by
  refine ⟨fun pins s σ H Q I h => ?_⟩
  obtain ⟨η, ρ, S, rp, er, h⟩ := h
  refine Call_ (ld_blt I hg hm boot_tuple (PyProof.Rows.callWith_type1 (args_cons ?_ na) na))
  refine Call_ (ld_blt I hg2 hm2 boot_range (PyProof.Rows.callWith_type1 (thn (ha.run pos2 pins s σ H _ I ⟨η, ρ, S, rp, er, FinR.bind (rel := relL (gx X ct)) h⟩) fun us s1 ⟨vs, H1, I1, r1, η1, ws, S1, f1, rp1, rr, q⟩ => ?_) hs hpl))
  have q' : FinO (gx X ct) η1 H1 (gTupRng ws S1) Q := lift_ok q
  unfold gTupRng at q'
  split at q'
  · rename_i i j c
    split at q'
    · rename_i hcd
      obtain ⟨c0, c1, c2, c3, c4⟩ := hcd
      obtain ⟨v1, v2, v3, rfl, r2, r3, r4⟩ := repWs3 rr
      obtain rfl := intW r2
      obtain rfl := intW r3
      obtain rfl := intW r4
      cases r1 with
      | cons r rr =>
        cases rr with
        | cons r' rr =>
          cases rr with
          | cons r'' rr =>
            cases rr
            obtain ⟨t, rfl⟩ := r
            obtain ⟨t', rfl⟩ := r'
            obtain ⟨t'', rfl⟩ := r''
            refine call_range_3 c0 ?_ (.inl (PyProof.noPylong_small c1))
            have I2 : Inv X pins σ H1 { s1 with heap := s1.heap.push { cls := .type "range", data := .fields #[.int i t, .int j t', .int c t''] } } := I1.kept (t' := s1.toks) fun b o e => Heap.get?_push_of_some _ e
            refine args_nil ?_
            refine call_tuple_range (n := (Builtin.Range.rangeSize i j c).toNat) (I2.ok.hd hc) (IsRange.new ..) c2 c3 (by omega) fun h' tk acc hk hi => ?_
            have I3 : Inv X pins σ H1 { s1 with heap := h', toks := tk } := I2.kept hk
            have vals : Vals ((List.range (Builtin.Range.rangeSize i j c).toNat).map fun k => V.int (i + (k : Nat) * c)) acc.toList := by
              have e : acc.toList.length = (Builtin.Range.rangeSize i j c).toNat := by rw [Array.length_toList]; exact hi.1
              rw [← e]
              refine vals_of_get acc.toList _ fun j u hj => ?_
              obtain ⟨t, rfl⟩ := hi.2 j u (by rw [← hj, Array.getElem?_toList])
              exact ⟨t, rfl⟩
            refine ⟨.ref h'.objs.size, _, I3.laid (t' := tk) (fun c o e => Heap.get?_push_of_some _ e) (Nat.le_refl _) (show ObjOk X.prog X.w _ _ _ (.tup _) from ⟨?_, acc.toList, vals, ?_⟩), rfl, new_tup rp1 (rng_rep i c _) q' _ (I3.hok.fresh (Nat.le_refl _))⟩
            · rw [List.length_map, List.length_range, sizeLine_eq]; omega
            · rw [Array.toArray_toList]; exact IsTup.new _ _
    · exact q'.elim
  · exact q'.elim
end
end VI
set_option Elab.async false
set_option linter.all false
set_option maxRecDepth 100000
namespace VI
open PySem PySem.Spec PyProof.Rows L2

/-! a class as it is called -/
theorem hu1 {k : Nat} {A : Around} (r : Room k A) : A.units + 1 < cLine := by have := r.un; omega
theorem room_pred {n : Nat} {A : Around} (h : 2 ≤ n) (r : Room n A) : Room (n - 1 + 1) A := by
  rw [Nat.sub_add_cancel (by omega)]
  exact r
def CalleeK (P : Program) (w : World) (K : PySem.W.Frag) (mg : Str → Option Value) (base : Heap) (ct : Nat → Option Addr) (k : Nat) (nm : Str) (n : Nat) (g : List W → Store → R W) : Prop :=
  ∃ gi : List W → Store → R (List (Str × W)), (∀ ws S, g ws S = mkOb nm n gi ws S) ∧ (∀ ws S c fs S', gi ws S ≠ .exc c fs S') ∧ CalleeI P w K mg base ct k nm n gi
section
variable {X : Cx} {ct : Nat → Option Addr} {E : EX} {k n m : Nat} {nm : Str} {g : List W → Store → R W} {e : Expr} {es : List Expr} {p pos : Pos} {fa : FA}
theorem new_eq {gi : List W → Store → R (List (Str × W))} (h : ∀ ws S, g ws S = mkOb nm n gi ws S) (hn : m + 1 = n) : fCallL m g fa = fMk nm n gi fa := by
  funext ρ S
  unfold fCallL fMk
  congr 1
  funext ws S1
  by_cases e : ws.length = m
  · rw [if_pos e, h]
  · rw [if_neg e]
    unfold mkOb
    rw [if_neg (by omega)]
theorem cNew (C : CalleeK X.prog X.w X.K X.mg X.base ct k nm n g) (hr : Room (k + 1) X.A) (gd : X.A.guards = some []) (ha : PA X (e :: es) (tA (gx X ct) E fa)) (hn : m + 1 = n := by rfl) (hg : Gl X nm := by rfl) (hdb : (nm == ("__debug__" : Str)) = false := by decide)
    (he : starEach (e :: es) X.env = (false, eval e X.env) :: starEach es X.env := by rfl) (hpl : (backTo pos (starEach es X.env)).any (·.1) = false := by rfl) :
    PE X (.Call (.Name nm p) (e :: es) [] pos) (tF (gx X ct) E (fCallL m g fa)) := by
  obtain ⟨gi, h1, h2, C⟩ := C
  rw [new_eq h1 hn]
  exact cMk C hr gd h2 ha hg hdb he hpl
theorem cNew0 (C : CalleeK X.prog X.w X.K X.mg X.base ct k nm 1 g) (hr : Room (k + 1) X.A) (gd : X.A.guards = some []) (hg : Gl X nm := by rfl) (hdb : (nm == ("__debug__" : Str)) = false := by decide) :
    PE X (.Call (.Name nm p) [] [] pos) (tF (gx X ct) E (fCallL 0 g fA0)) := by
  obtain ⟨gi, h1, h2, C⟩ := C
  rw [new_eq h1 rfl]
  exact cMk0 C hr gd h2 hg hdb
end
section
variable {P : Program} {w : World} {K : PySem.W.Frag} {mg : Str → Option Value} {base : Heap} {ct : Nat → Option Addr} {k n : Nat} {nm qual : Str} {st : Stmt} {N ps : List Str} {L : List (Str × FE)} {g : List W → Store → R W}
theorem mkOb_bad (ws : List W) (S : Store) : mkOb nm n (fun _ _ => R.bad) ws S = .bad := by
  unfold mkOb
  split <;> rfl
theorem calleeK_zero (D : InitAt K mg nm qual st) (hB : BndM "__init__" qual st ps) (h : ∀ ws S, g ws S = .bad) : CalleeK P w K mg base ct k nm n g :=
  ⟨fun _ _ => .bad, fun ws S => by rw [h, mkOb_bad], (fun _ _ _ _ _ e => by cases e), calleeI_zero D hB⟩
theorem calleeK_succ (D : InitAt K mg nm qual st) (hB : BndM "__init__" qual st ps) (hS : FnScope N ps (defScope st)) (hps : ps.length ≤ N.length) (hL : L.length < 900) (hn : ps.length = n)
    (h0 : ∀ ws S, g ws S = mkOb nm n (fun ws S => noX (goI (startI N.length ws) L [] S)) ws S)
    (h : ∀ (f : Addr) (cdv : Value) (A : Around) (outer : List Env) (s : Shared) (H : Hp) (E : XK), Room k (A.deeper (envOfC qual (defScope st) s.heap.objs.size f cdv)) → A.guards = some [] → PSs (bodyX P w K mg base N qual (defScope st) f cdv A outer s H E) (defBody st) (tInit ⟨K, ct⟩ nm E0 L)) :
    CalleeK P w K mg base ct (k + 1) nm n g := ⟨_, h0, fun _ _ _ _ _ => noX_ne, calleeI_succ D hB hS hps hL hn h⟩
end
theorem methAt_of {K : PySem.W.Frag} {nm m qual : Str} {st : Stmt} (c : (He.Fa.meth nm m).ok K = true) (F : ∃ fd, FunD K m qual (defArgs st) (defBody st) (defScope st) [] [] (He.ma K (He.ga K nm) m) fd) : MethAt K nm m qual st := by
  obtain ⟨fd, F⟩ := F
  exact ⟨_, fd, F, He.meth_ok c⟩
theorem initAt_of {K : PySem.W.Frag} {h : Heap} {mg : Str → Option Value} {nm qual : Str} {st : Stmt} (X : K.In h) (G : h.Ns mainGlobals mg) (c : (He.Fa.glo nm).ok K = true) (m : (He.Fa.mkr nm).ok K = true) (F : ∃ fd, FunD K "__init__" qual (defArgs st) (defBody st) (defScope st) [] [] (He.ma K (He.ga K nm) "__init__") fd) : InitAt K mg nm qual st := by
  obtain ⟨fd, F⟩ := F
  exact ⟨_, fd, F, He.mkr_ok m, He.glo_ok X G c⟩
end VI
set_option Elab.async false
set_option linter.all false
set_option maxRecDepth 100000
set_option maxHeartbeats 4000000
namespace VI
open PySem PySem.Spec PyProof.Rows L2

/-! xs.extend(t), t a tuple -/
theorem list_extend_tup (l : Addr) (items : Array Value) (n : Nat) (b : Addr) (items2 : Array Value) (n2 : Nat) (dd : Option Addr) (sl : Array (Option Value)) (hs0 : ¬(!items.isEmpty && Builtin.List.listTooLong (items.size + items2.size)) = true) (hs1 : items.size ≤ sizeLine) (hs2 : items.size + items2.size ≤ sizeLine + 1) :
    Meets (Builtin.«list.extend» ⟨[.ref l, .ref b], []⟩) (fun _ R s => s.heap.get? l = some { cls := .type "list", dict := none, data := .seq items n, slots := #[] } ∧ s.heap.get? b = some { cls := .type "tuple", dict := dd, data := .seq items2 n2, slots := sl } ∧ R (.ok (.ret Value.none)) { s with heap := s.heap.update l (Obj.mapSeq fun x => x ++ items2), toks := s.toks }) :=
  .of_wp fun prog w A R s h => by
    obtain ⟨hp, g, d, tk, os⟩ := s; obtain ⟨hl, hb, h⟩ := h; have f1 := AutoSeq1.idx_int; have f2 := AutoSeq1.sub_tuple_tuple; have f3 := AutoSeq1.sub_list_list; have f4 := AutoSeq1.sub_tuple_list; have f5 := AutoSeq1.sub_list_tuple;
    have hz' : (items ++ items2).size ≤ sizeLine + 1 := by rw [Array.size_append]; exact hs2
    wp_walk using (wpAny_updateSeq hl rfl (hz := hs1) (_hz' := hz')), wpAny_loadPart' hl, wpAny_loadPart' hb; exact ⟨_, rfl, h⟩
section
variable {X : Cx} {ct : Nat → Option Addr}
theorem mt_extendT : MtR X "list.extend" (fun x vs H Q => ∃ l b xs zs, x = .ref l ∧ vs = [.ref b] ∧ H l = some (.lst xs) ∧ SqT X.K H b zs ∧ xs.length + zs.length ≤ sizeLine ∧ Q .non (upd H l (.lst (xs ++ zs)))) := by
  intro pins s σ H x vs v us Q I rx rv h
  obtain ⟨l, b, xs, zs, rfl, rfl, hH, hB, hz, q⟩ := h
  cases rx
  obtain ⟨u, rfl, ru⟩ := rv.one
  cases ru
  obtain ⟨z, its, n, r, hl, e⟩ := I.lstM hH
  obtain ⟨its2, r2, ⟨⟨cls, dd, data, sl⟩, ho, hc, n2, hd⟩, hs⟩ := I.tuple hB
  simp only at hc hd
  subst hc hd
  have hl2 := r2.length
  have hsz : its.toArray.size + its2.toArray.size ≤ sizeLine := by rw [List.size_toArray, List.size_toArray]; omega
  have hlong : ¬ (!its.toArray.isEmpty && Builtin.List.listTooLong (its.toArray.size + its2.toArray.size)) = true := by
    rw [notLongL hsz, Bool.and_false]
    exact Bool.false_ne_true
  refine call_meets F.slot_list_extend ⟨_, e, rfl⟩ F.entry_list_extend (F.args_list_extend_2 _ _)
    (list_extend_tup l its.toArray n b its2.toArray n2 dd sl hlong (by rw [List.size_toArray]; omega) (by omega)) ⟨e, ho, ?_⟩
  refine ⟨.non, _, I.lset (its' := its ++ its2) hH e (by simp) (r.append r2) ?_, rfl, q⟩
  rw [List.length_append]
  omega
def mExtendT : GM := fun o ws S => match o, ws with
  | .loc l, [.d (.tuple ys)] => match S[l]? with
    | some (.lst xs) => if xs.length + ys.length ≤ lim then some (.d .none, S.set l (.lst (xs ++ ys))) else none
    | _ => none
  | _, _ => none
theorem m_extendT : MtR X "list.extend" (SimM X ct mExtendT) := MtR.fit mt_extendT fun x xs H Q ⟨η, S, wx, ws, rp, rx, rr, h⟩ => by
  unfold mExtendT at h
  split at h
  · rename_i l ys
    split at h
    · rename_i ds q
      obtain ⟨a, vs, rfl, ha, h1, h2⟩ := live_at q rp rx
      obtain ⟨y, rfl, ry⟩ := repWs1 rr
      split at h
      · rename_i hl
        cases ry with
        | d ry =>
          cases ry with
          | tuple g1 g2 => exact ⟨a, _, vs, _, rfl, rfl, h1, g1, by rw [← h2.length, ← g2.length, sizeLine_eq]; exact hl, write_list rp ha (h2.append g2) (.d .none) h⟩
      · exact h.elim
    · exact h.elim
  · exact h.elim
theorem MtR.orO {id : String} {g g' : GM} (h : MtR X id (SimM X ct g)) (h' : MtR X id (SimM X ct g')) : MtR X id (SimM X ct fun o ws S => VI.orO (g o ws S) (g' o ws S)) := by
  intro pins s σ H x xs v us Q I rx rr ⟨η, S, wx, ws, rp, r1, r2, q⟩
  cases e : g wx ws S with
  | some o => exact h pins s σ H x xs v us Q I rx rr ⟨η, S, wx, ws, rp, r1, r2, by rw [e]; simp only [e, VI.orO] at q; exact q⟩
  | none => exact h' pins s σ H x xs v us Q I rx rr ⟨η, S, wx, ws, rp, r1, r2, by simp only [e, VI.orO] at q; exact q⟩
def mExtendA : GM := fun o ws S => orO (mExtend o ws S) (mExtendT o ws S)
theorem m_extendA : MtR X "list.extend" (SimM X ct mExtendA) := MtR.orO m_extend m_extendT
end
end VI
set_option Elab.async false
set_option linter.all false
set_option maxRecDepth 100000
namespace VI
open PySem PySem.Spec PyProof.Rows L2

/-! a body evaluated -/
section
variable {g : W → W → Store → O} {h : W → Store → O} {a b : FE} {fa : FA} {t : FT} {p q : FS} {ρ ρ1 : Rho} {S S1 S2 S3 : Store} {x y z : W}
theorem ev_var {i : Nat} (e : ρ[i]? = some (some x)) : fVar i ρ S = .ok x S := by unfold fVar; rw [e]
theorem ev_f2 (ea : a ρ S = .ok x S1) (eb : b ρ S1 = .ok y S2) (e : g x y S2 = some (z, S3)) : f2 g a b ρ S = .ok z S3 := by
  unfold f2
  rw [ea]
  show (b ρ S1).bind _ = _
  rw [eb]
  show lift (g x y S2) = _
  rw [e]
  rfl
theorem ev_f1 (ea : a ρ S = .ok x S1) (e : h x S1 = some (z, S2)) : f1 h a ρ S = .ok z S2 := by
  unfold f1
  rw [ea]
  show lift (h x S1) = _
  rw [e]
  rfl
theorem ev_L {k : List W → Store → O} {ws : List W} (ea : fa ρ S = .ok ws S1) (e : k ws S1 = some (z, S2)) : fL k fa ρ S = .ok z S2 := by
  unfold fL
  rw [ea]
  show lift (k ws S1) = _
  rw [e]
  rfl
theorem ev_ac {ws : List W} (ea : a ρ S = .ok x S1) (er : fa ρ S1 = .ok ws S2) : fAc a fa ρ S = .ok (x :: ws) S2 := by
  unfold fAc
  rw [ea]
  show (fa ρ S1).bind _ = _
  rw [er]
  rfl
theorem ev_one (ea : a ρ S = .ok x S1) : fAc a fA0 ρ S = .ok [x] S1 := ev_ac ea rfl
theorem ev_seq (ep : p ρ S = .next ρ1 S1) : fSeq p q ρ S = q ρ1 S1 := by unfold fSeq; rw [ep]
theorem ev_test {k : Bool} (ea : a ρ S = .ok (.d (.bool k)) S1) : fTest a ρ S = .ok k S1 := by unfold fTest; rw [ea]; rfl
theorem ev_yes (et : t ρ S = .ok true S1) : fIf t p q ρ S = p ρ S1 := by unfold fIf; rw [et]; rfl
theorem ev_no (et : t ρ S = .ok false S1) : fIf t p q ρ S = q ρ S1 := by unfold fIf; rw [et]; rfl
theorem ev_asg {i : Nat} (ea : a ρ S = .ok x S1) : fAsg a (gtName i) ρ S = .next (ρ.set i (some x)) S1 := by unfold fAsg; rw [ea]; rfl
theorem ev_ret (ea : a ρ S = .ok x S1) : fRet a ρ S = .ret x S1 := by unfold fRet; rw [ea]; rfl
theorem ev_store {fo fi fe : FE} {o i v : W} {S4 : Store} (ee : fe ρ S = .ok v S1) (eo : fo ρ S1 = .ok o S2) (ei : fi ρ S2 = .ok i S3) (es : gSet o i v S3 = some S4) : fStore fe fo fi ρ S = .next ρ S4 := by
  unfold fStore
  rw [ee]
  show toS ρ (fo ρ S1) _ = _
  rw [eo]
  show toS ρ (fi ρ S2) _ = _
  rw [ei]
  show (match gSet o i v S3 with | some S4 => RF.next ρ S4 | none => RF.bad) = _
  rw [es]
theorem ev_augAt {fo fi fe : FE} {o i v : W} {old : PyData} {S4 S5 : Store} (eo : fo ρ S = .ok o S1) (ei : fi ρ S1 = .ok i S2) (eg : gAt o i S2 = some old) (ee : fe ρ S2 = .ok v S3) (ex : g (.d old) v S3 = some (z, S4)) (es : gSet o i z S4 = some S5) : fAugAt fo fi g fe ρ S = .next ρ S5 := by
  unfold fAugAt
  rw [eo]
  show toS ρ (fi ρ S1) _ = _
  rw [ei]
  show (match gAt o i S2 with | some old => _ | none => _) = _
  rw [eg]
  show toS ρ (fe ρ S2) _ = _
  rw [ee]
  show (match g (.d old) v S3 with | some (z, S4) => _ | none => _) = _
  rw [ex]
  show (match gSet o i z S4 with | some S5 => RF.next ρ S5 | none => RF.bad) = _
  rw [es]
theorem ev_I2 {C : Int → Int → Bool} {f : Int → Int → PyData} {i j : Int} (c : C i j = true) : gI2 C f (.d (.int i)) (.d (.int j)) S = some (.d (f i j), S) := by unfold gI2; exact if_pos c
theorem ev_mulA {i j : Int} (c : decide (i.natAbs.log2 + j.natAbs.log2 < 1000000) = true) : gMulA (.d (.int i)) (.d (.int j)) S = some (.d (.int (i * j)), S) := by
  show gMul (.d (.int i)) (.d (.int j)) S = _
  exact ev_I2 c
theorem ev_eqI {i j : Int} : gEq (.d (.int i)) (.d (.int j)) S = some (.d (.bool (decide (i = j))), S) := by
  have e : PyData.eqv (.int i) (.int j) = decide (i = j) := by
    by_cases h : i = j
    · subst h; simp [PyData.eqv]
    · simp [PyData.eqv, h]
  show (if SeqAt.shaped (.int i) = true ∧ SeqAt.shaped (.int j) = true then some (W.d (.bool (PyData.eqv (.int i) (.int j))), S) else none) = _
  rw [if_pos ⟨rfl, rfl⟩, e]
end
/-! the bag: what it holds, a number taken of it -/
structure Bag where
  b0 : Int
  b1 : Int
  b2 : Nat
  cs : List Int
def Bag.so (b : Bag) : SO := .lst [.int b.b0, .int b.b1, .int (b.b2 : Int), .list (b.cs.map PyData.int)]
structure Bag.Ok (b : Bag) : Prop where
  h0 : 0 ≤ b.b0
  h1 : 0 ≤ b.b1 ∧ b.b1 < 2147483647
  h2 : ∀ c ∈ b.cs, 0 ≤ c
noncomputable def bTake : FS := (fSeq (fIf (fTest (f2 gEq (f2 gIx (fVar 0) (fC (.int 0))) (fC (.int 0)))) (fSeq (fAsg (f2 gIx (f2 gAdd (fSl gSlA (f2 gIx (fVar 0) (fC (.int 3))) (fPart (f2 gIx (fVar 0) (fC (.int 2)))) fNoPart) (fL gLst (fAc (fC (.int 0)) fA0))) (fC (.int 0))) (gtName 2)) (fSeq (fAugAt (fVar 0) (fC (.int 2)) (gI2 (fun _ _ => true) fun i j => .int (i + j)) (fC (.int 1))) (fSeq (fIf (fTest (f2 gGe (fVar 2) (f2 gPow (fC (.int 10)) (fC (.int 18))))) (fStore (fVar 2) (fVar 0) (fC (.int 0))) fNext) (fSeq (fAsg (f2 gAdd (f2 gAdd (f2 gMulA (f2 gIx (fVar 0) (fC (.int 1))) (fC (.int 48271))) (f2 gMod (fL gIntA (fAc (fVar 2) fA0)) (fC (.int 2147483647)))) (f2 gMulA (fC (.int 7919)) (f2 gIx (fVar 0) (fC (.int 2))))) (gtName 3)) (fStore (f2 gMod (fL gIntA (fAc (fVar 3) fA0)) (fC (.int 2147483647))) (fVar 0) (fC (.int 1))))))) fNext) (fSeq (fIf (fTest (f2 gGt (f2 gIx (fVar 0) (fC (.int 0))) (fC (.int 0)))) (fSeq (fAsg (f2 gMod (fL gIntA (fAc (f2 gIx (fVar 0) (fC (.int 0))) fA0)) (fVar 1)) (gtName 4)) (fSeq (fStore (f2 gDiv (fL gIntA (fAc (f2 gIx (fVar 0) (fC (.int 0))) fA0)) (fVar 1)) (fVar 0) (fC (.int 0))) (fRet (fVar 4)))) fNext) (fSeq (fAsg (f2 gMod (fL gIntA (fAc (f2 gMulA (f2 gAdd (f2 gIx (fVar 0) (fC (.int 1))) (fC (.int 1))) (fC (.int 39373))) fA0)) (fC (.int 1000000007))) (gtName 5)) (fSeq (fAsg (f2 gMod (fL gIntA (fAc (f2 gMulA (f2 gMod (fL gIntA (fAc (f2 gMulA (fVar 5) (fVar 5)) fA0)) (fC (.int 998244353))) (fC (.int 30011))) fA0)) (fC (.int 998244353))) (gtName 6)) (fRet (f2 gMod (fL gIntA (fAc (f2 gDiv (fVar 6) (fC (.int 7))) fA0)) (fVar 1)))))))
/-- a number taken: what, and the bag then -/
def Bag.step (b : Bag) : Bag :=
  if b.b0 = 0 then ⟨if 1000000000000000000 ≤ b.cs.getD b.b2 0 then b.cs.getD b.b2 0 else 0, (b.b1 * 48271 + b.cs.getD b.b2 0 % 2147483647 + 7919 * ((b.b2 : Int) + 1)) % 2147483647, b.b2 + 1, b.cs⟩ else b
def Bag.take (b : Bag) (m : Int) : Int × Bag :=
  if 0 < b.step.b0 then (b.step.b0 % m, { b.step with b0 := b.step.b0 / m })
  else (((b.step.b1 + 1) * 39373 % 1000000007 * ((b.step.b1 + 1) * 39373 % 1000000007) % 998244353 * 30011 % 998244353 / 7) % m, b.step)
theorem bag_rd {ρ : Rho} {S : Store} {l : Nat} {b : Bag} (hρ : ρ[0]? = some (some (.loc l))) (hS : S[l]? = some b.so) :
    f2 gIx (fVar 0) (fC (.int 0)) ρ S = .ok (.d (.int b.b0)) S ∧ f2 gIx (fVar 0) (fC (.int 1)) ρ S = .ok (.d (.int b.b1)) S ∧ f2 gIx (fVar 0) (fC (.int 2)) ρ S = .ok (.d (.int (b.b2 : Int))) S ∧ f2 gIx (fVar 0) (fC (.int 3)) ρ S = .ok (.d (.list (b.cs.map PyData.int))) S := by
  have e : asSeq (.loc l) S = some [.int b.b0, .int b.b1, .int (b.b2 : Int), .list (b.cs.map PyData.int)] := by simp [asSeq, hS, Bag.so]
  refine ⟨?_, ?_, ?_, ?_⟩ <;> simp [f2, fVar, hρ, fC, R.bind, gIx, e, lift, atI, ixN]
def tkA : FS := (fSeq (fAsg (f2 gIx (f2 gAdd (fSl gSlA (f2 gIx (fVar 0) (fC (.int 3))) (fPart (f2 gIx (fVar 0) (fC (.int 2)))) fNoPart) (fL gLst (fAc (fC (.int 0)) fA0))) (fC (.int 0))) (gtName 2)) (fSeq (fAugAt (fVar 0) (fC (.int 2)) (gI2 (fun _ _ => true) fun i j => .int (i + j)) (fC (.int 1))) (fSeq (fIf (fTest (f2 gGe (fVar 2) (f2 gPow (fC (.int 10)) (fC (.int 18))))) (fStore (fVar 2) (fVar 0) (fC (.int 0))) fNext) (fSeq (fAsg (f2 gAdd (f2 gAdd (f2 gMulA (f2 gIx (fVar 0) (fC (.int 1))) (fC (.int 48271))) (f2 gMod (fL gIntA (fAc (fVar 2) fA0)) (fC (.int 2147483647)))) (f2 gMulA (fC (.int 7919)) (f2 gIx (fVar 0) (fC (.int 2))))) (gtName 3)) (fStore (f2 gMod (fL gIntA (fAc (fVar 3) fA0)) (fC (.int 2147483647))) (fVar 0) (fC (.int 1)))))))
/-- the next cell, 0 behind the last -/
theorem cut_cell {ρ : Rho} {S : Store} {l : Nat} {b : Bag} (hρ : ρ[0]? = some (some (.loc l))) (hS : S[l]? = some b.so) (hl : b.cs.length < 1000) :
    f2 gIx (f2 gAdd (fSl gSlA (f2 gIx (fVar 0) (fC (.int 3))) (fPart (f2 gIx (fVar 0) (fC (.int 2)))) fNoPart) (fL gLst (fAc (fC (.int 0)) fA0))) (fC (.int 0)) ρ S = .ok (.d (.int (b.cs.getD b.b2 0))) S := by
  obtain ⟨h0, h1, h2, h3⟩ := bag_rd hρ hS
  have hc : cutG (b.cs.map PyData.int) (some (b.b2 : Int)) none = (b.cs.drop b.b2).map PyData.int := by
    unfold cutG
    rw [List.map_drop]
    have e1 : HT.sIx (b.cs.map PyData.int).length 0 (some (b.b2 : Int)) = min b.b2 (b.cs.map PyData.int).length := HT.sIx_nat _ _ _
    rw [e1, HT.sIx_none, List.length_map]
    by_cases h : b.b2 ≤ b.cs.length
    · rw [Nat.min_eq_left h, List.take_of_length_le (by rw [List.length_drop, List.length_map]; exact Nat.le_refl _)]
    · rw [Nat.min_eq_right (by omega), List.drop_of_length_le (by rw [List.length_map]; exact Nat.le_refl _), List.drop_of_length_le (by rw [List.length_map]; omega)]
      rw [List.take_nil]
  have hd : ∀ xs : List Int, ((xs.map PyData.int) ++ [PyData.int 0])[0]? = some (.int (xs.getD 0 0)) := fun xs => by cases xs <;> simp
  have hg : (b.cs.drop b.b2).getD 0 0 = b.cs.getD b.b2 0 := by simp [List.getD_eq_getElem?_getD]
  have hz : (b.cs.drop b.b2).length + 1 ≤ lim := by rw [List.length_drop]; show _ ≤ 16777216; omega
  have e1 : fSl gSlA (f2 gIx (fVar 0) (fC (.int 3))) (fPart (f2 gIx (fVar 0) (fC (.int 2)))) fNoPart ρ S = .ok (.d (.list ((b.cs.drop b.b2).map PyData.int))) S := by
    simp only [fSl, h3, R.bind, fPart, h2, intOf, fNoPart, gSlA, gSl, asSeq, hc, lift]
  have e2 : fL gLst (fAc (fC (.int 0)) fA0) ρ S = .ok (.d (.list [.int 0])) S := ev_L (ev_one rfl) rfl
  have e3 : gAdd (.d (.list ((b.cs.drop b.b2).map PyData.int))) (.d (.list [.int 0])) S = some (.d (.list ((b.cs.drop b.b2).map PyData.int ++ [.int 0])), S) := by
    simp only [gAdd, asL, List.length_map, List.length_cons, List.length_nil]
    rw [if_pos hz]
  have e4 : atI ((b.cs.drop b.b2).map PyData.int ++ [PyData.int 0]) 0 = some (.int (b.cs.getD b.b2 0)) := by
    rw [← hg, ← hd]
    simp [atI, ixN]
  exact ev_f2 (ev_f2 e1 e2 e3) rfl (by simp only [gIx, asSeq, e4, Option.map])
/-- a store into the bag, a member counted up -/
theorem bag_set {S : Store} {l : Nat} {b : Bag} (hS : S[l]? = some b.so) (i : Int) :
    gSet (.loc l) (.d (.int 0)) (.d (.int i)) S = some (S.set l ({ b with b0 := i } : Bag).so) ∧ gSet (.loc l) (.d (.int 1)) (.d (.int i)) S = some (S.set l ({ b with b1 := i } : Bag).so) := by
  constructor <;> (unfold gSet; simp only [hS, Bag.so]; rfl)
theorem bag_up {S : Store} {l : Nat} {b : Bag} (hS : S[l]? = some b.so) :
    gAt (.loc l) (.d (.int 2)) S = some (.int (b.b2 : Int)) ∧ gSet (.loc l) (.d (.int 2)) (.d (.int ((b.b2 : Int) + 1))) S = some (S.set l ({ b with b2 := b.b2 + 1 } : Bag).so) := by
  constructor
  · unfold gAt
    simp only [hS, Bag.so]
    rfl
  · unfold gSet
    simp only [hS, Bag.so]
    rfl
theorem at_set {S : Store} {l : Nat} {o u : SO} (hS : S[l]? = some o) : (S.set l u)[l]? = some u := List.getElem?_set_self (List.getElem?_eq_some_iff.mp hS).1
theorem bag_mul {i j : Int} {n m : Nat} (hi : i.natAbs < 2 ^ n) (hj : j.natAbs < 2 ^ m) (h : n + m < 1000000) : decide (i.natAbs.log2 + j.natAbs.log2 < 1000000) = true := by
  have l1 : ∀ {k p : Nat}, k < 2 ^ p → k.log2 ≤ p := fun {k p} hk => by
    by_cases z : k = 0
    · subst z; rw [Nat.log2_zero]; exact Nat.zero_le _
    · exact Nat.le_of_lt ((Nat.log2_lt z).mpr hk)
  have a := l1 hi
  have b := l1 hj
  exact decide_eq_true (by omega)
/-- the bag stirred -/
theorem stir_run {ρ : Rho} {S : Store} {l : Nat} {b : Bag} (hρ : ρ[0]? = some (some (.loc l))) (h7 : ρ.length = 7) (hS : S[l]? = some b.so) (h0 : b.b0 = 0) (h1 : 0 ≤ b.b1 ∧ b.b1 < 2147483647) (h2 : b.b2 < 2 ^ 60) (hl : b.cs.length < 1000) :
    ∃ u v, tkA ρ S = .next ((ρ.set 2 u).set 3 v) (S.set l b.step.so) := by
  have hc := cut_cell hρ hS hl
  have at0 : ∀ {w : Option W} {i : Nat}, (ρ.set (i + 1) w)[0]? = some (some (.loc l)) := fun {w i} => by rw [List.getElem?_set_ne (by omega)]; exact hρ
  let c := b.cs.getD b.b2 0
  have q1 := (at0 (w := some (.d (.int c))) (i := 1))
  have s1 : fAsg (f2 gIx (f2 gAdd (fSl gSlA (f2 gIx (fVar 0) (fC (.int 3))) (fPart (f2 gIx (fVar 0) (fC (.int 2)))) fNoPart) (fL gLst (fAc (fC (.int 0)) fA0))) (fC (.int 0))) (gtName 2) ρ S = .next (ρ.set 2 (some (.d (.int c)))) S := ev_asg hc
  have v2 : (ρ.set 2 (some (W.d (.int c))))[2]? = some (some (.d (.int c))) := List.getElem?_set_self (by omega)
  have s2 : fAugAt (fVar 0) (fC (.int 2)) (gI2 (fun _ _ => true) fun i j => .int (i + j)) (fC (.int 1)) (ρ.set 2 (some (.d (.int c)))) S = .next (ρ.set 2 (some (.d (.int c)))) (S.set l ({ b with b2 := b.b2 + 1 } : Bag).so) :=
    ev_augAt (ev_var q1) rfl (bag_up hS).1 rfl (ev_I2 rfl) (bag_up hS).2
  have hS2 := at_set (u := ({ b with b2 := b.b2 + 1 } : Bag).so) hS
  have tst : fTest (f2 gGe (fVar 2) (f2 gPow (fC (.int 10)) (fC (.int 18)))) (ρ.set 2 (some (.d (.int c)))) (S.set l ({ b with b2 := b.b2 + 1 } : Bag).so) = .ok (decide (1000000000000000000 ≤ c)) (S.set l ({ b with b2 := b.b2 + 1 } : Bag).so) := by
    refine ev_test (ev_f2 (ev_var v2) (ev_f2 rfl rfl (ev_I2 (by decide))) (ev_I2 rfl))
  -- the cell put in
  have s3 : fIf (fTest (f2 gGe (fVar 2) (f2 gPow (fC (.int 10)) (fC (.int 18))))) (fStore (fVar 2) (fVar 0) (fC (.int 0))) fNext (ρ.set 2 (some (.d (.int c)))) (S.set l ({ b with b2 := b.b2 + 1 } : Bag).so)
      = .next (ρ.set 2 (some (.d (.int c)))) (S.set l ({ b with b2 := b.b2 + 1, b0 := if 1000000000000000000 ≤ c then c else 0 } : Bag).so) := by
    by_cases hc18 : 1000000000000000000 ≤ c
    · rw [decide_eq_true hc18] at tst
      rw [ev_yes tst, if_pos hc18, ev_store (ev_var v2) (ev_var q1) rfl (bag_set hS2 c).1, List.set_set]
    · rw [decide_eq_false hc18] at tst
      rw [ev_no tst, if_neg hc18]
      show RF.next _ _ = _
      congr 2
      rw [← h0]
  let b3 : Bag := { b with b2 := b.b2 + 1, b0 := if 1000000000000000000 ≤ c then c else 0 }
  have hS3 : (S.set l b3.so)[l]? = some b3.so := at_set hS
  have r3 := bag_rd q1 hS3
  have m1 : decide (b.b1.natAbs.log2 + (48271 : Int).natAbs.log2 < 1000000) = true := bag_mul (n := 31) (m := 16) (by omega) (by decide) (by decide)
  have m2 : decide ((7919 : Int).natAbs.log2 + (((b.b2 + 1 : Nat) : Int)).natAbs.log2 < 1000000) = true := bag_mul (n := 13) (m := 61) (by decide) (by rw [Int.natAbs_natCast]; omega) (by decide)
  let x : Int := b.b1 * 48271 + c % 2147483647 + 7919 * ((b.b2 + 1 : Nat) : Int)
  have s4 : fAsg (f2 gAdd (f2 gAdd (f2 gMulA (f2 gIx (fVar 0) (fC (.int 1))) (fC (.int 48271))) (f2 gMod (fL gIntA (fAc (fVar 2) fA0)) (fC (.int 2147483647)))) (f2 gMulA (fC (.int 7919)) (f2 gIx (fVar 0) (fC (.int 2))))) (gtName 3) (ρ.set 2 (some (.d (.int c)))) (S.set l b3.so)
      = .next ((ρ.set 2 (some (.d (.int c)))).set 3 (some (.d (.int x)))) (S.set l b3.so) :=
    ev_asg (ev_f2 (ev_f2 (ev_f2 r3.2.1 rfl (ev_mulA m1)) (ev_f2 (ev_L (ev_one (ev_var v2)) rfl) rfl (ev_I2 (by decide))) rfl) (ev_f2 rfl r3.2.2.1 (ev_mulA m2)) rfl)
  have q3 : ((ρ.set 2 (some (W.d (.int c)))).set 3 (some (.d (.int x))))[0]? = some (some (.loc l)) := by rw [List.getElem?_set_ne (by omega)]; exact q1
  have v3 : ((ρ.set 2 (some (W.d (.int c)))).set 3 (some (.d (.int x))))[3]? = some (some (.d (.int x))) := List.getElem?_set_self (by rw [List.length_set]; omega)
  have s5 : fStore (f2 gMod (fL gIntA (fAc (fVar 3) fA0)) (fC (.int 2147483647))) (fVar 0) (fC (.int 1)) ((ρ.set 2 (some (.d (.int c)))).set 3 (some (.d (.int x)))) (S.set l b3.so)
      = .next ((ρ.set 2 (some (.d (.int c)))).set 3 (some (.d (.int x)))) ((S.set l b3.so).set l ({ b3 with b1 := x % 2147483647 } : Bag).so) :=
    ev_store (ev_f2 (ev_L (ev_one (ev_var v3)) rfl) rfl (ev_I2 (by decide))) (ev_var q3) rfl (bag_set hS3 _).2
  refine ⟨some (.d (.int c)), some (.d (.int x)), ?_⟩
  unfold tkA
  rw [ev_seq s1, ev_seq s2, ev_seq s3, ev_seq s4, s5, List.set_set]
  have eb : b.step = { b3 with b1 := x % 2147483647 } := by
    unfold Bag.step
    rw [if_pos h0]
    show (⟨_, _, _, _⟩ : Bag) = ⟨_, _, _, _⟩
    congr 1
  rw [eb]
theorem ev_seqR {p q : FS} {ρ : Rho} {S S1 : Store} {w : W} (ep : p ρ S = .ret w S1) : fSeq p q ρ S = .ret w S1 := by unfold fSeq; rw [ep]
theorem set_same {S : Store} {l : Nat} {o : SO} (h : S[l]? = some o) : S.set l o = S := by
  refine List.ext_getElem? fun j => ?_
  by_cases e : l = j
  · subst e
    rw [at_set h, h]
  · rw [List.getElem?_set_ne e]
def tkB : FS := (fSeq (fAsg (f2 gMod (fL gIntA (fAc (f2 gIx (fVar 0) (fC (.int 0))) fA0)) (fVar 1)) (gtName 4)) (fSeq (fStore (f2 gDiv (fL gIntA (fAc (f2 gIx (fVar 0) (fC (.int 0))) fA0)) (fVar 1)) (fVar 0) (fC (.int 0))) (fRet (fVar 4))))
def tkC : FS := (fSeq (fAsg (f2 gMod (fL gIntA (fAc (f2 gMulA (f2 gAdd (f2 gIx (fVar 0) (fC (.int 1))) (fC (.int 1))) (fC (.int 39373))) fA0)) (fC (.int 1000000007))) (gtName 5)) (fSeq (fAsg (f2 gMod (fL gIntA (fAc (f2 gMulA (f2 gMod (fL gIntA (fAc (f2 gMulA (fVar 5) (fVar 5)) fA0)) (fC (.int 998244353))) (fC (.int 30011))) fA0)) (fC (.int 998244353))) (gtName 6)) (fRet (f2 gMod (fL gIntA (fAc (f2 gDiv (fVar 6) (fC (.int 7))) fA0)) (fVar 1)))))
theorem bTake_parts : bTake = fSeq (fIf (fTest (f2 gEq (f2 gIx (fVar 0) (fC (.int 0))) (fC (.int 0)))) tkA fNext) (fSeq (fIf (fTest (f2 gGt (f2 gIx (fVar 0) (fC (.int 0))) (fC (.int 0)))) tkB fNext) tkC) := rfl
/-- out of the number that is left over -/
theorem rest_run {ρ : Rho} {S : Store} {l : Nat} {b : Bag} {m : Int} (h0 : ρ[0]? = some (some (.loc l))) (h1 : ρ[1]? = some (some (.d (.int m)))) (h7 : ρ.length = 7) (hS : S[l]? = some b.so) (hm : 0 < m ∧ m < 1073741824) :
    tkB ρ S = .ret (.d (.int (b.b0 % m))) (S.set l ({ b with b0 := b.b0 / m } : Bag).so) := by
  have r := bag_rd h0 hS
  have q0 : (ρ.set 4 (some (W.d (.int (b.b0 % m)))))[0]? = some (some (.loc l)) := by rw [List.getElem?_set_ne (by omega)]; exact h0
  have q1 : (ρ.set 4 (some (W.d (.int (b.b0 % m)))))[1]? = some (some (.d (.int m))) := by rw [List.getElem?_set_ne (by omega)]; exact h1
  have q4 : (ρ.set 4 (some (W.d (.int (b.b0 % m)))))[4]? = some (some (.d (.int (b.b0 % m)))) := List.getElem?_set_self (by omega)
  have r2 := bag_rd q0 hS
  unfold tkB
  rw [ev_seq (ev_asg (ev_f2 (ev_L (ev_one r.1) rfl) (ev_var h1) (ev_I2 (decide_eq_true hm.1)))),
    ev_seq (ev_store (ev_f2 (ev_L (ev_one r2.1) rfl) (ev_var q1) (ev_I2 (decide_eq_true hm))) (ev_var q0) rfl (bag_set hS _).1)]
  exact ev_ret (ev_var q4)
/-- out of what is stirred -/
theorem stirred_run {ρ : Rho} {S : Store} {l : Nat} {b : Bag} {m : Int} (h0 : ρ[0]? = some (some (.loc l))) (h1 : ρ[1]? = some (some (.d (.int m)))) (h7 : ρ.length = 7) (hS : S[l]? = some b.so) (hb : 0 ≤ b.b1 ∧ b.b1 < 2147483647) (hm : 0 < m ∧ m < 1073741824) :
    tkC ρ S = .ret (.d (.int (((b.b1 + 1) * 39373 % 1000000007 * ((b.b1 + 1) * 39373 % 1000000007) % 998244353 * 30011 % 998244353 / 7) % m))) S := by
  have r := bag_rd h0 hS
  generalize eg : (b.b1 + 1) * 39373 % 1000000007 = g
  have g0 : 0 ≤ g ∧ g < 1000000007 := by rw [← eg]; exact ⟨Int.emod_nonneg _ (by decide), Int.emod_lt_of_pos _ (by decide)⟩
  generalize ek : g * g % 998244353 = k
  have k0 : 0 ≤ k ∧ k < 998244353 := by rw [← ek]; exact ⟨Int.emod_nonneg _ (by decide), Int.emod_lt_of_pos _ (by decide)⟩
  have m1 : decide ((b.b1 + 1).natAbs.log2 + (39373 : Int).natAbs.log2 < 1000000) = true := bag_mul (n := 32) (m := 16) (by omega) (by decide) (by decide)
  have m2 : decide (g.natAbs.log2 + g.natAbs.log2 < 1000000) = true := bag_mul (n := 30) (m := 30) (by omega) (by omega) (by decide)
  have m3 : decide (k.natAbs.log2 + (30011 : Int).natAbs.log2 < 1000000) = true := bag_mul (n := 30) (m := 16) (by omega) (by decide) (by decide)
  have v5 : (ρ.set 5 (some (W.d (.int g))))[5]? = some (some (.d (.int g))) := List.getElem?_set_self (by omega)
  have v6 : ((ρ.set 5 (some (W.d (.int g)))).set 6 (some (W.d (.int (k * 30011 % 998244353)))))[6]? = some (some (.d (.int (k * 30011 % 998244353)))) := List.getElem?_set_self (by rw [List.length_set]; omega)
  have v1 : ((ρ.set 5 (some (W.d (.int g)))).set 6 (some (W.d (.int (k * 30011 % 998244353)))))[1]? = some (some (.d (.int m))) := by rw [List.getElem?_set_ne (by omega), List.getElem?_set_ne (by omega)]; exact h1
  have a5 : fAsg (f2 gMod (fL gIntA (fAc (f2 gMulA (f2 gAdd (f2 gIx (fVar 0) (fC (.int 1))) (fC (.int 1))) (fC (.int 39373))) fA0)) (fC (.int 1000000007))) (gtName 5) ρ S = .next (ρ.set 5 (some (W.d (.int g)))) S := by
    rw [← eg]
    exact ev_asg (ev_f2 (ev_L (ev_one (ev_f2 (ev_f2 r.2.1 rfl rfl) rfl (ev_mulA m1))) rfl) rfl (ev_I2 (by decide)))
  have a6 : fAsg (f2 gMod (fL gIntA (fAc (f2 gMulA (f2 gMod (fL gIntA (fAc (f2 gMulA (fVar 5) (fVar 5)) fA0)) (fC (.int 998244353))) (fC (.int 30011))) fA0)) (fC (.int 998244353))) (gtName 6) (ρ.set 5 (some (W.d (.int g)))) S = .next ((ρ.set 5 (some (W.d (.int g)))).set 6 (some (W.d (.int (k * 30011 % 998244353))))) S := by
    refine ev_asg (ev_f2 (ev_L (ev_one (ev_f2 (ev_f2 (ev_L (ev_one (ev_f2 (ev_var v5) (ev_var v5) (ev_mulA m2))) rfl) rfl (ev_I2 (by decide))) rfl (ev_mulA ?_))) rfl) rfl ?_)
    · rw [ek]; exact m3
    · rw [ek]; exact ev_I2 (by decide)
  unfold tkC
  rw [ev_seq a5, ev_seq a6]
  exact ev_ret (ev_f2 (ev_L (ev_one (ev_f2 (ev_var v6) rfl (ev_I2 (by decide)))) rfl) (ev_var v1) (ev_I2 (decide_eq_true hm.1)))
theorem step_b1 {b : Bag} (h1 : 0 ≤ b.b1 ∧ b.b1 < 2147483647) : 0 ≤ b.step.b1 ∧ b.step.b1 < 2147483647 := by
  unfold Bag.step
  split
  · exact ⟨Int.emod_nonneg _ (by decide), Int.emod_lt_of_pos _ (by decide)⟩
  · exact h1
/-- what is taken of the bag -/
theorem take_run {S : Store} {l : Nat} {b : Bag} {m : Int} (hS : S[l]? = some b.so) (h1 : 0 ≤ b.b1 ∧ b.b1 < 2147483647) (h2 : b.b2 < 2 ^ 60) (hl : b.cs.length < 1000) (hm : 0 < m ∧ m < 1073741824) :
    runB 7 bTake [.loc l, .d (.int m)] S = .ok (.d (.int (b.take m).1)) (S.set l (b.take m).2.so) := by
  have e0 : (startR 7 [.loc l, .d (.int m)])[0]? = some (some (.loc l)) := rfl
  have e1 : (startR 7 [.loc l, .d (.int m)])[1]? = some (some (.d (.int m))) := rfl
  have e7 : (startR 7 [.loc l, .d (.int m)]).length = 7 := rfl
  -- behind the stirring
  have first : ∃ ρ, ρ[0]? = some (some (.loc l)) ∧ ρ[1]? = some (some (.d (.int m))) ∧ ρ.length = 7 ∧
      fIf (fTest (f2 gEq (f2 gIx (fVar 0) (fC (.int 0))) (fC (.int 0)))) tkA fNext (startR 7 [.loc l, .d (.int m)]) S = .next ρ (S.set l b.step.so) := by
    have tst : fTest (f2 gEq (f2 gIx (fVar 0) (fC (.int 0))) (fC (.int 0))) (startR 7 [.loc l, .d (.int m)]) S = .ok (decide (b.b0 = 0)) S := ev_test (ev_f2 (bag_rd e0 hS).1 rfl ev_eqI)
    by_cases hz : b.b0 = 0
    · rw [decide_eq_true hz] at tst
      obtain ⟨u, v, e⟩ := stir_run e0 e7 hS hz h1 h2 hl
      exact ⟨_, rfl, rfl, rfl, (ev_yes tst).trans e⟩
    · rw [decide_eq_false hz] at tst
      refine ⟨_, e0, e1, e7, (ev_no tst).trans ?_⟩
      have es : b.step = b := if_neg hz
      rw [es, set_same hS]
      rfl
  obtain ⟨ρ, r0, r1, r7, e⟩ := first
  have hS2 : (S.set l b.step.so)[l]? = some b.step.so := at_set hS
  have h1' := step_b1 h1
  unfold runB
  rw [bTake_parts, ev_seq e]
  have tst : fTest (f2 gGt (f2 gIx (fVar 0) (fC (.int 0))) (fC (.int 0))) ρ (S.set l b.step.so) = .ok (decide (0 < b.step.b0)) (S.set l b.step.so) := ev_test (ev_f2 (bag_rd r0 hS2).1 rfl (ev_I2 rfl))
  by_cases hp : 0 < b.step.b0
  · rw [decide_eq_true hp] at tst
    rw [ev_seqR ((ev_yes tst).trans (rest_run r0 r1 r7 hS2 hm)), List.set_set]
    unfold Bag.take
    rw [if_pos hp]
    rfl
  · rw [decide_eq_false hp] at tst
    rw [ev_seq ((ev_no tst).trans (show fNext ρ (S.set l b.step.so) = .next ρ (S.set l b.step.so) from rfl)), stirred_run r0 r1 r7 hS2 h1' hm]
    unfold Bag.take
    rw [if_neg hp]
    rfl
end VI
set_option Elab.async false
set_option linter.all false
set_option maxRecDepth 100000
namespace VI
open PySem PySem.Spec PyProof.Rows L2

/-! calls evaluated; one of several; several mixed -/
theorem ev_call {n : Nat} {g : List W → Store → R W} {fa : FA} {ρ : Rho} {S S1 S2 : Store} {ws : List W} {w w' : W} (ea : fa ρ S = .ok ws S1) (hn : ws.length = n) (eg : g ws S1 = .ok w S2) (hz : S2.length = S1.length) (hw : frzW S1.length S2 w = some w') : fCall n g fa ρ S = .ok w' S2 := by
  unfold fCall
  rw [ea]
  show (if ws.length = n then frz S1.length (g ws S1) else R.bad) = _
  rw [if_pos hn, eg]
  show (match frzW S1.length S2 w with | some w' => R.ok w' (S2.take S1.length) | none => R.bad) = _
  rw [hw]
  show R.ok w' (S2.take S1.length) = _
  rw [List.take_of_length_le (by omega)]
structure Bag.Fit (b : Bag) : Prop where
  h1 : 0 ≤ b.b1 ∧ b.b1 < 2147483647
  hl : b.cs.length < 1000
theorem step_cs (b : Bag) : b.step.cs = b.cs ∧ b.step.b2 ≤ b.b2 + 1 := by
  unfold Bag.step
  split
  · exact ⟨rfl, Nat.le_refl _⟩
  · exact ⟨rfl, Nat.le_succ _⟩
theorem take_facts (b : Bag) {m : Int} (hm : 0 < m) : 0 ≤ (b.take m).1 ∧ (b.take m).1 < m := by
  unfold Bag.take
  split
  · exact ⟨Int.emod_nonneg _ (by omega), Int.emod_lt_of_pos _ hm⟩
  · exact ⟨Int.emod_nonneg _ (by omega), Int.emod_lt_of_pos _ hm⟩
theorem take_fit {b : Bag} (h : b.Fit) (m : Int) : (b.take m).2.Fit ∧ (b.take m).2.b2 ≤ b.b2 + 1 := by
  have s := step_cs b
  have s1 := step_b1 h.h1
  unfold Bag.take
  split
  · exact ⟨⟨s1, by show b.step.cs.length < 1000; rw [s.1]; exact h.hl⟩, s.2⟩
  · exact ⟨⟨s1, by rw [s.1]; exact h.hl⟩, s.2⟩
/-- it takes a number -/
def Taker (g : List W → Store → R W) : Prop := ∀ (S : Store) (l : Nat) (b : Bag) (m : Int), S[l]? = some b.so → b.Fit → b.b2 < 2 ^ 60 → 0 < m ∧ m < 1073741824 → g [.loc l, .d (.int m)] S = .ok (.d (.int (b.take m).1)) (S.set l (b.take m).2.so)
theorem taker : Taker (runB 7 bTake) := fun S l b m hS h h2 hm => take_run hS h.h1 h2 h.hl hm
theorem ev_take {g : List W → Store → R W} (T : Taker g) {fa fb : FE} {ρ : Rho} {S : Store} {l : Nat} {b : Bag} {m : Int} (ea : fa ρ S = .ok (.loc l) S) (eb : fb ρ S = .ok (.d (.int m)) S) (hS : S[l]? = some b.so) (h : b.Fit) (h2 : b.b2 < 2 ^ 60) (hm : 0 < m ∧ m < 1073741824) :
    fCall 2 g (fAc fa (fAc fb fA0)) ρ S = .ok (.d (.int (b.take m).1)) (S.set l (b.take m).2.so) :=
  ev_call (ev_ac ea (ev_one eb)) rfl (T S l b m hS h h2 hm) (List.length_set ..) rfl
def bSome (tk : List W → Store → R W) : FS := (fRet (f2 gIx (fVar 1) (fCall 2 tk (fAc (fVar 0) (fAc (fL gLen (fAc (fVar 1) fA0)) fA0)))))
theorem atI_in {α : Type} {xs : List α} {i : Int} (h0 : 0 ≤ i) (h1 : i < xs.length) : atI xs i = xs[i.toNat]? := by
  unfold atI ixN
  rw [if_pos h0, if_pos h1]
  rfl
/-- one of several -/
def pick (b : Bag) (ds : List PyData) : PyData := ds.getD (b.take ds.length).1.toNat .none
theorem pick_mem {b : Bag} {ds : List PyData} (h : 0 < ds.length) : pick b ds ∈ ds := by
  have f := take_facts b (m := ds.length) (by omega)
  unfold pick
  rw [List.getD_eq_getElem?_getD, List.getElem?_eq_getElem (by omega)]
  exact List.getElem_mem _
theorem some_run {tk : List W → Store → R W} (T : Taker tk) {S : Store} {l : Nat} {b : Bag} {ds : List PyData} (hS : S[l]? = some b.so) (h : b.Fit) (h2 : b.b2 < 2 ^ 60) (hd : 0 < ds.length ∧ ds.length < 1073741824) :
    runB 2 (bSome tk) [.loc l, .d (.list ds)] S = .ok (.d (pick b ds)) (S.set l (b.take ds.length).2.so) := by
  have f := take_facts b (m := ds.length) (by omega)
  have hp : ds[(b.take ds.length).1.toNat]? = some (pick b ds) := by
    unfold pick
    rw [List.getD_eq_getElem?_getD, List.getElem?_eq_getElem (by omega)]
    rfl
  have e : bSome tk (startR 2 [.loc l, .d (.list ds)]) S = .ret (.d (pick b ds)) (S.set l (b.take ds.length).2.so) := by
    refine ev_ret (ev_f2 (ev_var (x := .d (.list ds)) rfl) (ev_take (m := ds.length) T (ev_var rfl) (ev_L (ev_one (ev_var (x := .d (.list ds)) rfl)) rfl) hS h h2 ⟨by omega, by omega⟩) ?_)
    show (atI ds _).map _ = _
    rw [atI_in f.1 f.2, hp]
    rfl
  unfold runB
  rw [e]
  rfl
/-! several, mixed -/
def mixP : Bag → List PyData → List PyData → List PyData × Bag
  | b, acc, [] => (acc, b)
  | b, acc, d :: ds => mixP (b.take ((acc.length : Int) + 1)).2 (acc.take (b.take ((acc.length : Int) + 1)).1.toNat ++ [d] ++ acc.drop (b.take ((acc.length : Int) + 1)).1.toNat) ds
theorem mixP_cons (b : Bag) (acc : List PyData) (d : PyData) (ds : List PyData) : mixP b acc (d :: ds) = mixP (b.take ((acc.length : Int) + 1)).2 (acc.take (b.take ((acc.length : Int) + 1)).1.toNat ++ [d] ++ acc.drop (b.take ((acc.length : Int) + 1)).1.toNat) ds := rfl
theorem mix_perm : ∀ (ds acc : List PyData) (b : Bag), ((mixP b acc ds).1).Perm (ds ++ acc)
  | [], acc, b => List.Perm.refl _
  | d :: ds, acc, b => by
    unfold mixP
    refine (mix_perm ds _ _).trans ?_
    have e : (acc.take (b.take ((acc.length : Int) + 1)).1.toNat ++ [d] ++ acc.drop (b.take ((acc.length : Int) + 1)).1.toNat).Perm (d :: acc) := by
      rw [List.append_assoc]
      show (acc.take (b.take ((acc.length : Int) + 1)).1.toNat ++ d :: acc.drop (b.take ((acc.length : Int) + 1)).1.toNat).Perm (d :: acc)
      refine List.perm_middle.trans ?_
      rw [List.take_append_drop]
    exact (List.Perm.append_left ds e).trans List.perm_middle
theorem mix_fit : ∀ (ds acc : List PyData) (b : Bag), b.Fit → (mixP b acc ds).2.Fit ∧ (mixP b acc ds).2.b2 ≤ b.b2 + ds.length
  | [], acc, b, h => ⟨h, Nat.le_refl _⟩
  | d :: ds, acc, b, h => by
    unfold mixP
    have f := take_fit h ((acc.length : Int) + 1)
    have r := mix_fit ds (acc.take (b.take ((acc.length : Int) + 1)).1.toNat ++ [d] ++ acc.drop (b.take ((acc.length : Int) + 1)).1.toNat) _ f.1
    refine ⟨r.1, ?_⟩
    rw [List.length_cons]
    have := r.2
    have := f.2
    omega
def mixBody (tk : List W → Store → R W) : FS := (fDrop (fMeth mInsert (fVar 2) (fAc (fCall 2 tk (fAc (fVar 0) (fAc (f2 gAdd (fL gLen (fAc (fVar 2) fA0)) (fC (.int 1))) fA0))) (fAc (fVar 3) fA0))))
noncomputable def bMixed (tk : List W → Store → R W) : FS := (fSeq (fAsg (fL gLive fA0) (gtName 2)) (fSeq (fFor (fItS (fVar 1)) (gtName 3) (mixBody tk)) (fRet (fVar 2))))
theorem ev_drop {a : FE} {ρ : Rho} {S S1 : Store} {x : W} (ea : a ρ S = .ok x S1) : fDrop a ρ S = .next ρ S1 := by unfold fDrop; rw [ea]; rfl
theorem ev_meth {g : GM} {o : FE} {fa : FA} {ρ : Rho} {S S1 S2 S3 : Store} {w z : W} {ws : List W} (eo : o ρ S = .ok w S1) (hl : liveB w S1 = true) (ea : fa ρ S1 = .ok ws S2) (eg : g w ws S2 = some (z, S3)) : fMeth g o fa ρ S = .ok z S3 := by
  unfold fMeth
  rw [eo]
  show (if liveB w S1 = true then (fa ρ S1).bind _ else R.bad) = _
  rw [if_pos hl, ea]
  show lift (g w ws S2) = _
  rw [eg]
  rfl
/-- one turn: the bag at l, the new list at n -/
theorem mix_turn {tk : List W → Store → R W} (T : Taker tk) {ρ : Rho} {S : Store} {l n : Nat} {b : Bag} {acc : List PyData} {d : PyData} (ne : l ≠ n) (h0 : ρ[0]? = some (some (.loc l))) (h2 : ρ[2]? = some (some (.loc n))) (h3 : ρ[3]? = some (some (.d d)))
    (hS : S[l]? = some b.so) (hN : S[n]? = some (.lst acc)) (hf : b.Fit) (hb : b.b2 < 2 ^ 60) (hz : acc.length < 1000000) :
    mixBody tk ρ S = .next ρ ((S.set l (b.take ((acc.length : Int) + 1)).2.so).set n (.lst (acc.take (b.take ((acc.length : Int) + 1)).1.toNat ++ [d] ++ acc.drop (b.take ((acc.length : Int) + 1)).1.toNat))) := by
  have f := take_facts b (m := (acc.length : Int) + 1) (by omega)
  have hN2 : (S.set l (b.take ((acc.length : Int) + 1)).2.so)[n]? = some (.lst acc) := by rw [List.getElem?_set_ne ne]; exact hN
  have ln : fL gLen (fAc (fVar 2) fA0) ρ S = .ok (.d (.int acc.length)) S := ev_L (ev_one (ev_var h2)) (by simp only [gLen, asSeq, hN])
  have tk1 := ev_take (fb := f2 gAdd (fL gLen (fAc (fVar 2) fA0)) (fC (.int 1))) (m := (acc.length : Int) + 1) T (ev_var h0) (ev_f2 ln rfl rfl) hS hf hb ⟨by omega, by omega⟩
  refine ev_drop (ev_meth (ev_var h2) (by simp only [liveB, hN]) (ev_ac tk1 (ev_one (ev_var h3))) (z := .d .none) ?_)
  unfold mInsert
  simp only [hN2]
  rw [if_pos ⟨Nat.lt_of_lt_of_le hz (by decide), f.1, by omega⟩]
theorem mix_loop {tk : List W → Store → R W} (T : Taker tk) {l n : Nat} {ok : Store → Prop} (hok : ∀ S, ok S) (ne : l ≠ n) : ∀ (ds acc : List PyData) (b : Bag) (ρ : Rho) (S : Store), ρ[0]? = some (some (.loc l)) → ρ[2]? = some (some (.loc n)) → ρ.length = 4 → S[l]? = some b.so → S[n]? = some (.lst acc) → b.Fit → b.b2 + ds.length < 2 ^ 60 → acc.length + ds.length < 1000000 →
    ∃ ρ', ρ'[2]? = some (some (.loc n)) ∧ forL ok (gtName 3) (mixBody tk) (ds.map W.d) ρ S = .next ρ' ((S.set l (mixP b acc ds).2.so).set n (.lst (mixP b acc ds).1))
  | [], acc, b, ρ, S, h0, h2, h4, hS, hN, hf, hb, hz => by
    refine ⟨ρ, h2, ?_⟩
    show forL ok (gtName 3) (mixBody tk) [] ρ S = _
    rw [forL, if_pos (hok S)]
    show RF.next ρ S = .next ρ ((S.set l b.so).set n (.lst acc))
    rw [set_same hS, set_same hN]
  | d :: ds, acc, b, ρ, S, h0, h2, h4, hS, hN, hf, hb, hz => by
    rw [List.length_cons] at hb hz
    have k0 : (ρ.set 3 (some (W.d d)))[0]? = some (some (.loc l)) := by rw [List.getElem?_set_ne (by omega)]; exact h0
    have k2 : (ρ.set 3 (some (W.d d)))[2]? = some (some (.loc n)) := by rw [List.getElem?_set_ne (by omega)]; exact h2
    have k3 : (ρ.set 3 (some (W.d d)))[3]? = some (some (.d d)) := List.getElem?_set_self (by omega)
    have tn := mix_turn T ne k0 k2 k3 hS hN hf (by omega) (by omega)
    have f := take_fit hf ((acc.length : Int) + 1)
    have fa := take_facts b (m := (acc.length : Int) + 1) (by omega)
    generalize eb : (b.take ((acc.length : Int) + 1)).2 = b2 at tn f
    generalize ei : acc.take (b.take ((acc.length : Int) + 1)).1.toNat ++ [d] ++ acc.drop (b.take ((acc.length : Int) + 1)).1.toNat = acc2 at tn
    have la : acc2.length = acc.length + 1 := by
      rw [← ei]
      simp only [List.length_append, List.length_take, List.length_drop, List.length_cons, List.length_nil]
      omega
    have s1 : ((S.set l b2.so).set n (.lst acc2))[l]? = some b2.so := by rw [List.getElem?_set_ne (Ne.symm ne)]; exact at_set hS
    have s2 : ((S.set l b2.so).set n (.lst acc2))[n]? = some (.lst acc2) := at_set (o := .lst acc) (by rw [List.getElem?_set_ne ne]; exact hN)
    obtain ⟨ρ', g2, e⟩ := mix_loop T hok ne ds acc2 b2 (ρ.set 3 (some (.d d))) ((S.set l b2.so).set n (.lst acc2)) k0 k2 (by rw [List.length_set]; exact h4) s1 s2 f.1 (by omega) (by omega)
    refine ⟨ρ', g2, ?_⟩
    show forL ok (gtName 3) (mixBody tk) (.d d :: ds.map W.d) ρ S = _
    rw [forL, if_pos (hok S)]
    show (match mixBody tk (ρ.set 3 (some (.d d))) S with
      | .next ρ2 S2 => forL ok (gtName 3) (mixBody tk) (ds.map W.d) ρ2 S2
      | .cnt ρ2 S2 => forL ok (gtName 3) (mixBody tk) (ds.map W.d) ρ2 S2
      | .brk ρ2 S2 => .next ρ2 S2
      | r => r) = _
    rw [tn]
    show forL ok (gtName 3) (mixBody tk) (ds.map W.d) _ _ = _
    rw [e]
    rw [mixP_cons, eb, ei, List.set_comm (l := S.set l b2.so) _ _ (Ne.symm ne), List.set_set, List.set_set]
theorem push_at {S : Store} {o : SO} : (S ++ [o])[S.length]? = some o := by rw [List.getElem?_append_right (Nat.le_refl _)]; simp
theorem push_old {S : Store} {o u : SO} {l : Nat} (h : S[l]? = some u) : (S ++ [o])[l]? = some u := by rw [List.getElem?_append_left (List.getElem?_eq_some_iff.mp h).1]; exact h
theorem mixed_run {tk : List W → Store → R W} (T : Taker tk) {S : Store} {l : Nat} {b : Bag} {ds : List PyData} (hS : S[l]? = some b.so) (hf : b.Fit) (hb : b.b2 + ds.length < 2 ^ 60) (hz : ds.length < 1000000) :
    runB 4 (bMixed tk) [.loc l, .d (.list ds)] S = .ok (.loc S.length) (S.set l (mixP b [] ds).2.so ++ [.lst (mixP b [] ds).1]) := by
  have hl : l < S.length := (List.getElem?_eq_some_iff.mp hS).1
  have e1 : fAsg (fL gLive fA0) (gtName 2) (startR 4 [.loc l, .d (.list ds)]) S = .next ((startR 4 [.loc l, .d (.list ds)]).set 2 (some (.loc S.length))) (S ++ [.lst []]) := ev_asg (ev_L (show fA0 _ S = .ok [] S from rfl) rfl)
  obtain ⟨ρ', k2, e2⟩ := mix_loop T (ok := fun _ => True) (fun _ => trivial) (Nat.ne_of_lt hl) ds [] b ((startR 4 [.loc l, .d (.list ds)]).set 2 (some (.loc S.length))) (S ++ [.lst []]) rfl rfl rfl (push_old hS) push_at hf hb (by simpa using hz)
  have e3 : fFor (fItS (fVar 1)) (gtName 3) (mixBody tk) ((startR 4 [.loc l, .d (.list ds)]).set 2 (some (.loc S.length))) (S ++ [.lst []]) = .next ρ' (((S ++ [SO.lst []]).set l (mixP b [] ds).2.so).set S.length (.lst (mixP b [] ds).1)) := e2
  have es : ((S ++ [SO.lst []]).set l (mixP b [] ds).2.so).set S.length (.lst (mixP b [] ds).1) = S.set l (mixP b [] ds).2.so ++ [.lst (mixP b [] ds).1] := by
    rw [List.set_append_left _ _ hl, List.set_append_right _ _ (by rw [List.length_set]; exact Nat.le_refl _), List.length_set, Nat.sub_self]
    rfl
  unfold runB bMixed
  rw [ev_seq e1, ev_seq e3, ev_ret (ev_var k2), es]
  rfl
/-- as it is called -/
theorem ev_mixed {tk g : List W → Store → R W} (T : Taker tk) (hg : ∀ ws S, g ws S = runB 4 (bMixed tk) ws S) {fa fb : FE} {ρ : Rho} {S : Store} {l : Nat} {b : Bag} {ds : List PyData} (ea : fa ρ S = .ok (.loc l) S) (eb : fb ρ S = .ok (.d (.list ds)) S)
    (hS : S[l]? = some b.so) (hf : b.Fit) (hb : b.b2 + ds.length < 2 ^ 60) (hz : ds.length < 1000000) : fCall 2 g (fAc fa (fAc fb fA0)) ρ S = .ok (.d (.list (mixP b [] ds).1)) (S.set l (mixP b [] ds).2.so) := by
  unfold fCall
  rw [ev_ac ea (ev_one eb)]
  show (if [W.loc l, .d (.list ds)].length = 2 then frz S.length (g _ S) else R.bad) = _
  rw [if_pos (show [W.loc l, .d (.list ds)].length = 2 from rfl), hg, mixed_run T hS hf hb hz]
  show (match frzW S.length _ (.loc S.length) with | some w' => R.ok w' (List.take S.length _) | none => R.bad) = _
  have e : frzW S.length (S.set l (mixP b [] ds).2.so ++ [.lst (mixP b [] ds).1]) (.loc S.length) = some (.d (.list (mixP b [] ds).1)) := by
    unfold frzW
    rw [if_neg (Nat.lt_irrefl _)]
    have z : (S.set l (mixP b [] ds).2.so ++ [SO.lst (mixP b [] ds).1])[S.length]? = some (.lst (mixP b [] ds).1) := by
      have := push_at (S := S.set l (mixP b [] ds).2.so) (o := .lst (mixP b [] ds).1)
      rw [List.length_set] at this
      exact this
    rw [z]
  rw [e]
  show R.ok _ (List.take S.length _) = _
  rw [List.take_append_of_le_length (by rw [List.length_set]; exact Nat.le_refl _), List.take_of_length_le (by rw [List.length_set]; exact Nat.le_refl _)]
theorem ev_some {tk g : List W → Store → R W} (T : Taker tk) (hg : ∀ ws S, g ws S = runB 2 (bSome tk) ws S) {fa fb : FE} {ρ : Rho} {S : Store} {l : Nat} {b : Bag} {ds : List PyData} (ea : fa ρ S = .ok (.loc l) S) (eb : fb ρ S = .ok (.d (.list ds)) S)
    (hS : S[l]? = some b.so) (hf : b.Fit) (hb : b.b2 < 2 ^ 60) (hz : 0 < ds.length ∧ ds.length < 1073741824) : fCall 2 g (fAc fa (fAc fb fA0)) ρ S = .ok (.d (pick b ds)) (S.set l (b.take ds.length).2.so) :=
  ev_call (ev_ac ea (ev_one eb)) rfl ((hg _ _).trans (some_run T hS hf hb hz)) (List.length_set ..) rfl
end VI
set_option Elab.async false
set_option linter.all false
set_option maxRecDepth 100000
namespace VI
open PySem PySem.Spec PyProof.Rows L2

/-! evaluating: texts and numbers -/
abbrev tx (a : List Nat) : Str := ⟨a.toArray⟩
abbrev st (a : List Nat) : W := .d (.str (tx a))
abbrev nt (n : Nat) : W := .d (.int (n : Int))
abbrev bt (b : Bool) : W := .d (.bool b)
theorem R_ok {α β : Type} {a : α} {S : Store} {k : α → Store → R β} : (R.ok a S).bind k = k a S := rfl
theorem toS_ok {α : Type} {a : α} {S : Store} {ρ : Rho} {k : α → Store → RF} : toS ρ (R.ok a S) k = k a S := rfl
theorem lift_some {w : W} {S : Store} : lift (some (w, S)) = .ok w S := rfl
theorem boolW_ok {b : Bool} {S : Store} : boolW (.d (.bool b)) S = .ok b S := rfl
theorem truR_b {b : Bool} {S : Store} : truR (.d (.bool b)) S = .ok b S := rfl
theorem len_tx (a : List Nat) : (tx a).length = a.length := by simp [Str.length]
section
variable {S : Store} {a b : List Nat} {i j c : Nat}
theorem g_ix (h : a[i]? = some c) (hl : a.length ≤ lim) : gIx (st a) (nt i) S = some (st [c], S) := by
  have hi : i < a.length := (List.getElem?_eq_some_iff.mp h).1
  show (if (tx a).length ≤ lim then (atI (tx a).cps.toList (i : Int)).map fun c => (W.d (.str ⟨#[c]⟩), S) else none) = _
  rw [len_tx, if_pos hl]
  show ((atI a (i : Int)).map fun c => (W.d (.str ⟨#[c]⟩), S)) = _
  rw [atI_in (by omega) (by omega), Int.toNat_natCast, h]
  rfl
theorem g_in : gInA (st [c]) (st b) S = some (bt (decide (c ∈ b)), S) := by
  have e2 := SX.in_one b c
  show some (bt (!(Builtin.Str.occurrences (tx b) (tx [c]) 0 (tx b).length 1).isEmpty), S) = _
  rw [e2]
theorem g_len (hl : a.length ≤ lim) : gLen [st a] S = some (nt a.length, S) := by
  show (if (tx a).length ≤ lim then some (W.d (.int ((tx a).length : Int)), S) else none) = _
  rw [len_tx, if_pos hl]
theorem g_lt : gLt (nt i) (nt j) S = some (bt (decide (i < j)), S) := by
  show some (bt (decide ((i : Int) < (j : Int))), S) = _
  congr 3
  simp only [Int.ofNat_lt]
theorem g_gt : gGt (nt i) (nt j) S = some (bt (decide (j < i)), S) := by
  show some (bt (decide ((j : Int) < (i : Int))), S) = _
  congr 3
  simp only [Int.ofNat_lt]
theorem g_le : gLe (nt i) (nt j) S = some (bt (decide (i ≤ j)), S) := by
  show some (bt (decide ((i : Int) ≤ (j : Int))), S) = _
  congr 3
  simp only [Int.ofNat_le]
theorem g_add : gAdd (nt i) (nt j) S = some (nt (i + j), S) := rfl
theorem g_inc : gI2 (fun _ _ => true) (fun i j => PyData.int (i + j)) (nt i) (nt j) S = some (nt (i + j), S) := rfl
theorem g_inc1 : gI2 (fun _ _ => true) (fun i j => PyData.int (i + j)) (nt i) (.d (.int 1)) S = some (nt (i + 1), S) := rfl
theorem g_add1 : gAdd (nt i) (.d (.int 1)) S = some (nt (i + 1), S) := rfl
theorem g_add2 : gAdd (nt i) (.d (.int 2)) S = some (nt (i + 2), S) := rfl
theorem g_cat (hl : a.length + b.length ≤ lim) : gAdd (st a) (st b) S = some (st (a ++ b), S) := by
  show (if (tx a).length + (tx b).length ≤ lim then some (W.d (.str (tx a ++ tx b)), S) else none) = _
  rw [len_tx, len_tx, if_pos hl]
  have e : tx a ++ tx b = tx (a ++ b) := SX.S_cat a b
  rw [e]
/-- signs that there are -/
def okc (a : List Nat) : Bool := a.all (· < 1114112)
theorem strOk_tx (h : okc a = true) : PyData.strOk (tx a) = true := by
  unfold PyData.strOk
  rw [← Array.all_toList]
  exact h
theorem shaped_tx (h : okc a = true) : SeqAt.shaped (.str (tx a)) = true := by
  unfold SeqAt.shaped
  have e : PyData.canLay0 (.str (tx a)) = true := strOk_tx h
  rw [e]
  rfl
theorem eqv_tx : PyData.eqv (.str (tx a)) (.str (tx b)) = decide (a = b) := by
  show (tx a == tx b) = _
  exact SX.S_beq_eq
theorem g_eqs (ha : okc a = true) (hb : okc b = true) : gEq (st a) (st b) S = some (bt (decide (a = b)), S) := by
  show some (bt (tx a == tx b), S) = _
  have e : (tx a == tx b) = decide (a = b) := SX.S_beq_eq
  rw [e]
theorem g_nes (ha : okc a = true) (hb : okc b = true) : gNe (st a) (st b) S = some (bt (!decide (a = b)), S) := by
  show some (bt (!(tx a == tx b)), S) = _
  have e : (tx a == tx b) = decide (a = b) := SX.S_beq_eq
  rw [e]
theorem cut_tx {lo hi : Option Int} : cutS (tx a) lo hi = tx ((a.drop (HT.sIx a.length 0 lo)).take (HT.sIx a.length a.length hi - HT.sIx a.length 0 lo)) := by
  unfold cutS
  rw [len_tx]
theorem take_min (l : List Nat) (i j : Nat) : (l.drop (min i l.length)).take (min j l.length - min i l.length) = (l.drop i).take (j - i) := by
  by_cases h : i ≤ l.length
  · rw [Nat.min_eq_left h]
    by_cases h2 : j ≤ l.length
    · rw [Nat.min_eq_left h2]
    · rw [Nat.min_eq_right (a := j) (by omega)]
      rw [List.take_of_length_le (i := l.length - i) (by rw [List.length_drop]; omega), List.take_of_length_le (by rw [List.length_drop]; omega)]
  · rw [List.drop_of_length_le (i := i) (by omega), Nat.min_eq_right (a := i) (by omega), List.drop_of_length_le (Nat.le_refl _), List.take_nil, List.take_nil]
theorem g_sl (hl : a.length ≤ lim) : gSlA (st a) (some (i : Int)) (some (j : Int)) S = some (st ((a.drop i).take (j - i)), S) := by
  show (if (tx a).length ≤ lim then some (W.d (.str (cutS (tx a) (some (i : Int)) (some (j : Int)))), S) else none) = _
  rw [len_tx, if_pos hl, cut_tx, HT.sIx_nat, HT.sIx_nat, take_min]
theorem g_sl1 (hl : a.length ≤ lim) : gSlA (st a) (some (i : Int)) (some ((i + 1 : Nat) : Int)) S = some (st ((a.drop i).take 1), S) := by
  rw [g_sl hl, Nat.add_sub_cancel_left]
theorem g_sl2 (hl : a.length ≤ lim) : gSlA (st a) (some (i : Int)) (some ((i + 2 : Nat) : Int)) S = some (st ((a.drop i).take 2), S) := by
  rw [g_sl hl, Nat.add_sub_cancel_left]
theorem g_sf (hl : a.length ≤ lim) : gSlA (st a) (some (i : Int)) none S = some (st (a.drop i), S) := by
  show (if (tx a).length ≤ lim then some (W.d (.str (cutS (tx a) (some (i : Int)) none)), S) else none) = _
  rw [len_tx, if_pos hl, cut_tx, HT.sIx_nat, HT.sIx_none]
  by_cases h : i ≤ a.length
  · rw [Nat.min_eq_left h, List.take_of_length_le (by rw [List.length_drop]; omega)]
  · rw [Nat.min_eq_right (by omega), List.drop_of_length_le (Nat.le_refl _), List.take_nil, List.drop_of_length_le (by omega)]
end
/-- a call that hands back pure data -/
theorem ev_cd {n : Nat} {g : List W → Store → R W} {fa : FA} {ρ : Rho} {S S1 S2 : Store} {ws : List W} {x : PyData} (ea : fa ρ S = .ok ws S1) (eg : g ws S1 = .ok (.d x) S2) (hn : ws.length = n := by rfl) : fCall n g fa ρ S = .ok (.d x) (S2.take S1.length) := by
  unfold fCall
  rw [ea]
  show (if ws.length = n then frz S1.length (g ws S1) else R.bad) = _
  rw [if_pos hn, eg]
  rfl
/-- .. and leaves the store -/
theorem fcall_same {n : Nat} {g : List W → Store → R W} {ws : List W} {S : Store} {x : PyData} (eg : g ws S = .ok (.d x) S) (hn : ws.length = n) : (if ws.length = n then frz S.length (g ws S) else R.bad) = .ok (.d x) S := by
  rw [if_pos hn, eg]
  show R.ok _ (S.take S.length) = _
  rw [List.take_length]
theorem while_step {c : FT} {b : FS} {n : Nat} {ρ : Rho} {S : Store} : whileL c b (n + 1) ρ S = toS ρ (c ρ S) fun k S1 => if k = true then (match b ρ S1 with
    | .next ρ2 S2 => whileL c b n ρ2 S2
    | .cnt ρ2 S2 => whileL c b n ρ2 S2
    | .brk ρ2 S2 => .next ρ2 S2
    | r => r) else .next ρ S1 := rfl
end VI
set_option Elab.async false
set_option linter.all false
set_option maxRecDepth 100000
namespace VI
open PySem PySem.Spec PyProof.Rows L2

structure Fine (d : PyData) : Prop where
  sh : SeqAt.shaped d = true
  sw : d.showable = true
  ln : d.shown.length ≤ lim
theorem gEq_same {w u : W} {d : PyData} {S : Store} (hw : asD w S = some d) (hu : asD u S = some d) (h : SeqAt.shaped d = true) : gEq w u S = some (bt true, S) := by
  have eD : gEqD w u S = some (bt true, S) := by
    unfold gEqD
    rw [hw, hu]
    show (if SeqAt.shaped d = true ∧ SeqAt.shaped d = true then some (bt (PyData.eqv d d), S) else none) = _
    rw [if_pos ⟨h, h⟩, SeqAt.eqv_refl d (SeqAt.canLay_of_shaped h)]
  unfold gEq
  cases e : gEqS w u S with
  | none => exact eD
  | some p =>
    unfold gEqS at e
    split at e
    · rename_i x y
      rw [asD] at hw hu
      cases hw
      cases hu
      rw [beq_self_eq_true] at e
      cases e
      rfl
    · cases e
theorem gRepr_fine {w : W} {d : PyData} {S : Store} (hw : asD w S = some d) (h : Fine d) : gRepr [w] S = some (.d (.str d.shown), S) := by
  show (match asD w S with | some d => if d.showable = true ∧ d.hasDict = false ∧ d.depth ≤ 64 ∧ d.shown.length ≤ lim then some (W.d (.str d.shown), S) else none | none => none) = _
  rw [hw]
  show (if d.showable = true ∧ d.hasDict = false ∧ d.depth ≤ 64 ∧ d.shown.length ≤ lim then some (W.d (.str d.shown), S) else none) = _
  rw [if_pos ⟨h.sw, noD_of h.sh, SeqAt.depth_of_shaped h.sh, h.ln⟩]
def BG (S : Store) (l N : Nat) : Prop := ∃ b : Bag, S[l]? = some b.so ∧ b.Fit ∧ b.b2 ≤ N
theorem BG.lt {S : Store} {l N : Nat} (h : BG S l N) : l < S.length := by
  obtain ⟨b, h, _⟩ := h
  exact (List.getElem?_eq_some_iff.mp h).1
theorem BG.mono {S : Store} {l N M : Nat} (h : BG S l N) (m : N ≤ M) : BG S l M := by
  obtain ⟨b, h1, h2, h3⟩ := h
  exact ⟨b, h1, h2, by omega⟩
theorem BG.of {S S' : Store} {l N : Nat} (h : BG S l N) (e : S'[l]? = S[l]?) : BG S' l N := by
  obtain ⟨b, h1, h2, h3⟩ := h
  exact ⟨b, by rw [e]; exact h1, h2, h3⟩
theorem BG.push {S : Store} {l N : Nat} (h : BG S l N) (o : SO) : BG (S ++ [o]) l N := h.of (List.getElem?_append_left h.lt)
theorem BG.take {S : Store} {l N n : Nat} (h : BG S l N) (m : l < n) : BG (S.take n) l N := h.of (List.getElem?_take_of_lt m)
theorem BG.setne {S : Store} {l N j : Nat} {o : SO} (h : BG S l N) (m : j ≠ l) : BG (S.set j o) l N := h.of (List.getElem?_set_ne m)
theorem fcall_len {n : Nat} {g : List W → Store → R W} {ws : List W} {S S' : Store} {x : PyData} (eg : g ws S = .ok (.d x) S') (hz : S'.length = S.length) (hn : ws.length = n) : (if ws.length = n then frz S.length (g ws S) else R.bad) = .ok (.d x) S' := by
  rw [if_pos hn, eg]
  show R.ok _ (S'.take S.length) = _
  rw [List.take_of_length_le (by omega)]
theorem noX_ok {α : Type} {a : α} {S : Store} : noX (R.ok a S) = R.ok a S := rfl
theorem bag_loop {l : Nat} : ∀ (zs : List Int) (acc : List PyData) (ρ : Rho) (S : Store), ρ.length = 2 → S[l]? = some (.lst acc) → acc.length + zs.length < lim →
    lcL (fun _ => True) (gtName 1) fYes (fL gAbs (fAc (fVar 1) fA0)) ρ l (zs.map fun z => W.d (.int z)) S = .ok (.loc l) (S.set l (.lst (acc ++ zs.map fun z => .int (if z < 0 then -z else z))))
  | [], acc, ρ, S, hr, hS, _ => by
    simp only [List.map_nil, lcL, if_true, List.append_nil]
    rw [set_same hS]
  | z :: zs, acc, ρ, S, hr, hS, hz => by
    rw [List.length_cons] at hz
    have ea : fL gAbs (fAc (fVar 1) fA0) (ρ.set 1 (some (.d (.int z)))) S = .ok (.d (.int (if z < 0 then -z else z))) S := ev_L (ev_one (ev_var (List.getElem?_set_self (by omega)))) rfl
    have pt : lcPut l (.d (.int (if z < 0 then -z else z))) S = some (S.set l (.lst (acc ++ [.int (if z < 0 then -z else z)]))) := by
      simp only [lcPut, hS, if_pos (show acc.length < lim by omega)]
    have ih := bag_loop (l := l) zs (acc ++ [.int (if z < 0 then -z else z)]) ρ (S.set l (.lst (acc ++ [.int (if z < 0 then -z else z)]))) hr (at_set hS) (by rw [List.length_append, List.length_singleton]; omega)
    have fz : frz S.length (.ok (.d (.int (if z < 0 then -z else z))) S : R W) = .ok (.d (.int (if z < 0 then -z else z))) S := by
      show R.ok _ (S.take S.length) = _
      rw [List.take_length]
    rw [List.map_cons, lcL, if_pos trivial]
    simp only [gtName, noX_ok, fYes, R_ok, if_true, ea, fz, pt]
    rw [ih, List.set_set, List.append_assoc]
    rfl
theorem fcall_at {n : Nat} {g : List W → Store → R W} {fa : FA} {ρ : Rho} {S S1 S' : Store} {ws : List W} {x : PyData} (ea : fa ρ S = .ok ws S1) (eg : g ws S1 = .ok (.d x) S') (hz : S'.length = S1.length) (hn : ws.length = n) : fCall n g fa ρ S = .ok (.d x) S' := by
  unfold fCall
  rw [ea]
  exact fcall_len eg hz hn
theorem for_inv {I : Nat → Rho → Store → Prop} {i : Nat} {b : FS} (step : ∀ j w ρ S, I j ρ S → ∃ ρ' S', b (ρ.set i (some w)) S = .next ρ' S' ∧ I (j + 1) ρ' S') :
    ∀ (ws : List W) (j : Nat) (ρ : Rho) (S : Store), I j ρ S → ∃ ρ' S', forL (fun _ => True) (gtName i) b ws ρ S = .next ρ' S' ∧ I (j + ws.length) ρ' S'
  | [], j, ρ, S, h => ⟨ρ, S, by simp only [forL, if_true], h⟩
  | w :: ws, j, ρ, S, h => by
    obtain ⟨ρ1, S1, e1, h1⟩ := step j w ρ S h
    obtain ⟨ρ2, S2, e2, h2⟩ := for_inv step ws (j + 1) ρ1 S1 h1
    refine ⟨ρ2, S2, ?_, by rw [List.length_cons]; rw [show j + (ws.length + 1) = j + 1 + ws.length by omega]; exact h2⟩
    rw [forL, if_pos trivial]
    simp only [gtName, e1]
    exact e2
theorem rangeW_len (lo : Int) (n : Nat) : (rangeW lo n).length = n := by unfold rangeW; rw [List.length_map, List.length_range]
theorem for_invB {I : Nat → Rho → Store → Prop} {i m : Nat} {b : FS} (step : ∀ j w ρ S, j < m → I j ρ S → ∃ ρ' S', b (ρ.set i (some w)) S = .next ρ' S' ∧ I (j + 1) ρ' S') :
    ∀ (ws : List W) (j : Nat) (ρ : Rho) (S : Store), j + ws.length ≤ m → I j ρ S → ∃ ρ' S', forL (fun _ => True) (gtName i) b ws ρ S = .next ρ' S' ∧ I (j + ws.length) ρ' S'
  | [], j, ρ, S, _, h => ⟨ρ, S, by simp only [forL, if_true], h⟩
  | w :: ws, j, ρ, S, hm, h => by
    rw [List.length_cons] at hm
    obtain ⟨ρ1, S1, e1, h1⟩ := step j w ρ S (by omega) h
    obtain ⟨ρ2, S2, e2, h2⟩ := for_invB step ws (j + 1) ρ1 S1 (by omega) h1
    refine ⟨ρ2, S2, ?_, by rw [List.length_cons]; rw [show j + (ws.length + 1) = j + 1 + ws.length by omega]; exact h2⟩
    rw [forL, if_pos trivial]
    simp only [gtName, e1]
    exact e2
theorem rng_at {S : Store} (k : Nat) (h : k < 1000) : rng1 [nt k] S = .ok ⟨rangeW 0 k, fun _ => True⟩ S := by
  have hf : fit62 (k : Int) = true := by
    unfold fit62
    rw [Bool.and_eq_true, decide_eq_true_eq, decide_eq_true_eq]
    omega
  unfold rng1
  simp only [hf, if_true, Int.toNat_natCast]
theorem rng_nat {ρ : Rho} {S : Store} (k : Nat) (h : k < 1000) {i : Int} (e : i = (k : Int) := by rfl) : fRng rng1 (fAc (fC (.int i)) fA0) ρ S = .ok ⟨rangeW 0 k, fun _ => True⟩ S := by
  have e1 : fRng rng1 (fAc (fC (.int i)) fA0) ρ S = rng1 [.d (.int i)] S := rfl
  rw [e1, e]
  exact rng_at k h
/-! the law's own functions, whatever their numbers are -/
def bAlike : FS := (fRet (fAndV (f2 gEq (fVar 0) (fVar 1)) (f2 gEq (fL gRepr (fAc (fVar 0) fA0)) (fL gRepr (fAc (fVar 1) fA0)))))
theorem alike_run {w u : W} {d : PyData} {S : Store} (hw : asD w S = some d) (hu : asD u S = some d) (h : Fine d) : runB 2 bAlike [w, u] S = .ok (bt true) S := by
  show toR (bAlike [some w, some u] S) = _
  unfold bAlike
  have q : gEq (.d (.str d.shown)) (.d (.str d.shown)) S = some (bt true, S) := by
    show some (bt (d.shown == d.shown), S) = _
    rw [beq_self_eq_true]
  simp only [fSeq, fAsg, fVar, fC, f1, f2, fL, fAc, fA0, fTest, fAndT, fOrT, fNotT, fTru, fAndV, fOrV, fIfE, fIf, fRet, fAug, fDrop, fSl, fPart, fNoPart, intOf, gtName, R_ok, toS_ok, lift_some, boolW_ok, truR_b, List.getElem?_cons_zero, List.getElem?_cons_succ, List.set_cons_zero, List.set_cons_succ, gEq_same hw hu h.sh, gRepr_fine hw h, gRepr_fine hu h, q, toR]
noncomputable def bBag : FS := (fRet (fL gLive (fAc (fC (.int 0)) (fAc (fC (.int 1234567891)) (fAc (fC (.int 0)) (fAc (fLc (fItS (fSl gSlA (fVar 0) fNoPart (fPart (fC (.int 63))))) (gtName 1) fYes (fL gAbs (fAc (fVar 1) fA0)) [1]) fA0))))))
theorem bag_run {ns : List Int} (h : ns.length ≤ 63) : ∃ b : Bag, runB 2 bBag [scriptW ns] [] = .ok (.loc 0) [b.so] ∧ b.Fit ∧ b.b2 = 0 := by
  refine ⟨⟨0, 1234567891, 0, (ns.take 63).map fun z => if z < 0 then -z else z⟩, ?_, ⟨(by show (0 : Int) ≤ 1234567891 ∧ (1234567891 : Int) < 2147483647; decide), ?_⟩, rfl⟩
  · show toR (bBag [some (scriptW ns), none] []) = _
    unfold bBag
    have sl : gSlA (scriptW ns) none (some 63) [] = some (.d (.list ((ns.take 63).map PyData.int)), []) := by
      show some (W.d (.list (cutG (ns.map PyData.int) none (some 63))), ([] : Store)) = _
      have e : cutG (ns.map PyData.int) none (some 63) = (ns.take 63).map PyData.int := by
        unfold cutG
        have e1 : HT.sIx (ns.map PyData.int).length (ns.map PyData.int).length (some (63 : Int)) = min 63 (ns.map PyData.int).length := HT.sIx_nat _ _ 63
        rw [HT.sIx_none, List.drop_zero, e1, Nat.sub_zero, List.map_take, List.length_map, ← List.length_map (f := PyData.int), ← List.take_eq_take_min]
      rw [e]
    have lp := bag_loop (l := 0) (ns.take 63) [] [some (scriptW ns), none] [.lst []] rfl rfl (by rw [List.length_take, List.length_nil]; show 0 + min 63 ns.length < 16777216; omega)
    have it : fItS (fSl gSlA (fVar 0) fNoPart (fPart (fC (.int 63)))) [some (scriptW ns), none] [] = .ok ⟨((ns.take 63).map PyData.int).map W.d, fun _ => True⟩ [] := by
      simp only [fItS, fSeq, fAsg, fVar, fC, f1, f2, fL, fAc, fA0, fTest, fAndT, fOrT, fNotT, fTru, fAndV, fOrV, fIfE, fIf, fRet, fAug, fDrop, fSl, fPart, fNoPart, intOf, gtName, R_ok, toS_ok, lift_some, boolW_ok, truR_b, List.getElem?_cons_zero, List.getElem?_cons_succ, List.set_cons_zero, List.set_cons_succ, sl]
      rfl
    have mm : ((ns.take 63).map PyData.int).map W.d = (ns.take 63).map fun z => W.d (.int z) := by rw [List.map_map]; rfl
    have wp : wipeR [some (scriptW ns), none] [1] = [some (scriptW ns), none] := rfl
    have lc : fLc (fItS (fSl gSlA (fVar 0) fNoPart (fPart (fC (.int 63))))) (gtName 1) fYes (fL gAbs (fAc (fVar 1) fA0)) [1] [some (scriptW ns), none] [] = .ok (.d (.list ((ns.take 63).map fun z => .int (if z < 0 then -z else z)))) [] := by
      unfold fLc fLcL
      rw [it]
      show frz 0 (lcL _ _ _ _ (wipeR [some (scriptW ns), none] [1]) 0 (((ns.take 63).map PyData.int).map W.d) [.lst []]) = _
      rw [mm, wp, lp]
      rfl
    simp only [fSeq, fAsg, fVar, fC, f1, f2, fL, fAc, fA0, fTest, fAndT, fOrT, fNotT, fTru, fAndV, fOrV, fIfE, fIf, fRet, fAug, fDrop, fSl, fPart, fNoPart, intOf, gtName, R_ok, toS_ok, lift_some, boolW_ok, truR_b, List.getElem?_cons_zero, List.getElem?_cons_succ, List.set_cons_zero, List.set_cons_succ, lc]
    show toR (RF.ret (.loc 0) [.lst [.int 0, .int 1234567891, .int 0, .list ((ns.take 63).map fun z => PyData.int (if z < 0 then -z else z))]]) = _
    show R.ok _ _ = R.ok _ [SO.lst [.int 0, .int 1234567891, .int ((0 : Nat) : Int), .list (((ns.take 63).map fun z => if z < 0 then -z else z).map PyData.int)]]
    rw [List.map_map]
    rfl
  · show ((ns.take 63).map _).length < 1000
    rw [List.length_map, List.length_take]
    omega
/-- a number is taken -/
theorem take_bg {tk : List W → Store → R W} (T : Taker tk) {S : Store} {l N : Nat} {m : Int} (hb : BG S l N) (hN : N < 2 ^ 59) (hm : 0 < m ∧ m < 1073741824) :
    ∃ v S', tk [.loc l, .d (.int m)] S = .ok (.d (.int v)) S' ∧ (0 ≤ v ∧ v < m) ∧ S'.length = S.length ∧ BG S' l (N + 1) ∧ ∀ j, j ≠ l → S'[j]? = S[j]? := by
  obtain ⟨b, h1, h2, h3⟩ := hb
  refine ⟨_, _, T S l b m h1 h2 (by omega) hm, take_facts b hm.1, List.length_set .., ⟨_, at_set h1, (take_fit h2 m).1, ?_⟩, fun j hj => List.getElem?_set_ne (Ne.symm hj)⟩
  have := (take_fit h2 m).2
  omega
/-- one of a list -/
theorem some_bg {tk : List W → Store → R W} (T : Taker tk) {S : Store} {l N : Nat} {ds : List PyData} (hb : BG S l N) (hN : N < 2 ^ 59) (hd : 0 < ds.length ∧ ds.length < 1073741824) :
    ∃ x S', x ∈ ds ∧ runB 2 (bSome tk) [.loc l, .d (.list ds)] S = .ok (.d x) S' ∧ S'.length = S.length ∧ BG S' l (N + 1) ∧ ∀ j, j ≠ l → S'[j]? = S[j]? := by
  obtain ⟨b, h1, h2, h3⟩ := hb
  refine ⟨pick b ds, _, pick_mem hd.1, some_run T h1 h2 (by omega) hd, List.length_set .., ⟨_, at_set h1, (take_fit h2 _).1, ?_⟩, fun j hj => List.getElem?_set_ne (Ne.symm hj)⟩
  have := (take_fit h2 (ds.length : Int)).2
  omega

/-! small data -/
mutual
def smallD : PyData → Bool
  | .none => true
  | .bool _ => true
  | .int i => decide (i.natAbs < 999999999999)
  | .str x => okc x.cps.toList
  | .list xs => smallDs xs
  | .tuple xs => smallDs xs
  | .dict _ => false
def smallDs : List PyData → Bool
  | [] => true
  | x :: xs => smallD x && smallDs xs
end
theorem log_sm {i : Int} (h : i.natAbs < 999999999999) : i.natAbs.log2 < 40 := by
  by_cases z : i.natAbs = 0
  · rw [z]; decide
  · exact (Nat.log2_lt z).mpr (by have : (2 : Nat) ^ 40 = 1099511627776 := by decide
                                  omega)
theorem leaf_sm {i : Int} (h : i.natAbs < 999999999999) : (PyData.shown (.int i)).length ≤ 13 := PyData.shown_int_le2 (by omega) (by omega)
theorem leaf_tx {x : Str} (h : okc x.cps.toList = true) : (x.cps.toList.all fun c => decide (c < 16 ^ 8)) = true := by
  refine List.all_eq_true.mpr fun c m => ?_
  have := List.all_eq_true.mp h c m
  rw [decide_eq_true_eq] at this
  exact decide_eq_true (by have : (16 : Nat) ^ 8 = 4294967296 := by decide
                           omega)
mutual
theorem small_lay : ∀ d : PyData, smallD d = true → PyData.canLay0 d = true
  | .none, _ => rfl
  | .bool _, _ => rfl
  | .int _, _ => rfl
  | .str x, h => by
    show PyData.strOk x = true
    have := strOk_tx (a := x.cps.toList) h
    rwa [show tx x.cps.toList = x from SX.S_tl x] at this
  | .list xs, h => small_lays xs h
  | .tuple xs, h => small_lays xs h
  | .dict _, h => by cases h
theorem small_lays : ∀ ds : List PyData, smallDs ds = true → PyData.canLayAll0 ds = true
  | [], _ => rfl
  | x :: xs, h => by
    have h2 : (smallD x && smallDs xs) = true := h
    rw [Bool.and_eq_true] at h2
    show (PyData.canLay0 x && PyData.canLayAll0 xs) = true
    rw [small_lay x h2.1, small_lays xs h2.2]
    rfl
end
mutual
theorem small_show : ∀ d : PyData, smallD d = true → PyData.showable d = true
  | .none, _ => rfl
  | .bool _, _ => rfl
  | .int i, h => decide_eq_true (Nat.lt_trans (log_sm (of_decide_eq_true h)) (by decide))
  | .str x, h => rfl
  | .list xs, h => small_shows xs h
  | .tuple xs, h => small_shows xs h
  | .dict _, h => by cases h
theorem small_shows : ∀ ds : List PyData, smallDs ds = true → PyData.showableAll ds = true
  | [], _ => rfl
  | x :: xs, h => by
    have h2 : (smallD x && smallDs xs) = true := h
    rw [Bool.and_eq_true] at h2
    show (PyData.showable x && PyData.showableAll xs) = true
    rw [small_show x h2.1, small_shows xs h2.2]
    rfl
end
mutual
theorem small_leaf : ∀ d : PyData, smallD d = true → PyData.leavesShort 13 d = true
  | .none, _ => rfl
  | .bool _, _ => rfl
  | .int i, h => decide_eq_true (leaf_sm (of_decide_eq_true h))
  | .str x, h => leaf_tx h
  | .list xs, h => small_leafs xs h
  | .tuple xs, h => small_leafs xs h
  | .dict _, h => by cases h
theorem small_leafs : ∀ ds : List PyData, smallDs ds = true → PyData.leavesShortAll 13 ds = true
  | [], _ => rfl
  | x :: xs, h => by
    have h2 : (smallD x && smallDs xs) = true := h
    rw [Bool.and_eq_true] at h2
    show (PyData.leavesShort 13 x && PyData.leavesShortAll 13 xs) = true
    rw [small_leaf x h2.1, small_leafs xs h2.2]
    rfl
end
/-- small, of a depth, of a bulk -/
structure Sm (k b : Nat) (d : PyData) : Prop where
  sm : smallD d = true
  dp : d.depth ≤ k
  bk : d.bulk ≤ b
structure Sms (k b : Nat) (ds : List PyData) : Prop where
  sm : smallDs ds = true
  dp : PyData.depthAll ds ≤ k
  bk : PyData.bulkAll ds ≤ b
theorem Sm.int {i : Int} (h : i.natAbs < 999999999999) {k b : Nat} : Sm k b (.int i) := ⟨decide_eq_true h, Nat.zero_le _, Nat.zero_le _⟩
theorem Sm.bool {i : Bool} {k b : Nat} : Sm k b (.bool i) := ⟨rfl, Nat.zero_le _, Nat.zero_le _⟩
theorem Sm.mono {k b k' b' : Nat} {d : PyData} (h : Sm k b d) (hk : k ≤ k') (hb : b ≤ b') : Sm k' b' d := ⟨h.sm, Nat.le_trans h.dp hk, Nat.le_trans h.bk hb⟩
theorem Sms.mono {k b k' b' : Nat} {d : List PyData} (h : Sms k b d) (hk : k ≤ k') (hb : b ≤ b') : Sms k' b' d := ⟨h.sm, Nat.le_trans h.dp hk, Nat.le_trans h.bk hb⟩
theorem Sms.nil {k b : Nat} : Sms k b [] := ⟨rfl, Nat.zero_le _, Nat.zero_le _⟩
theorem Sms.cons {k b1 b2 : Nat} {d : PyData} {ds : List PyData} (h : Sm k b1 d) (hs : Sms k b2 ds) : Sms k (b1 + 1 + b2) (d :: ds) := by
  refine ⟨?_, Nat.max_le.mpr ⟨h.dp, hs.dp⟩, ?_⟩
  · show (smallD d && smallDs ds) = true
    rw [h.sm, hs.sm]
    rfl
  · show d.bulk + 1 + PyData.bulkAll ds ≤ _
    have := h.bk
    have := hs.bk
    omega
theorem Sms.one {k b : Nat} {d : PyData} (h : Sm k b d) : Sms k (b + 1) [d] := (Sms.cons h (Sms.nil (b := 0))).mono (Nat.le_refl _) (by omega)
theorem Sm.tuple {k b : Nat} {ds : List PyData} (h : Sms k b ds) : Sm (k + 1) b (.tuple ds) := ⟨h.sm, Nat.succ_le_succ h.dp, h.bk⟩
theorem Sm.list {k b : Nat} {ds : List PyData} (h : Sms k b ds) : Sm (k + 1) b (.list ds) := ⟨h.sm, Nat.succ_le_succ h.dp, h.bk⟩
theorem Sms.all {k b : Nat} : ∀ {ds : List PyData}, (∀ d ∈ ds, Sm k b d) → Sms k (ds.length * (b + 1)) ds
  | [], _ => Sms.nil
  | d :: ds, h => (Sms.cons (h d (by simp)) (Sms.all fun x m => h x (by simp [m]))).mono (Nat.le_refl _) (by rw [List.length_cons, Nat.succ_mul]; omega)
theorem Sms.append {k b1 b2 : Nat} : ∀ {ds es : List PyData}, Sms k b1 ds → Sms k b2 es → Sms k (b1 + b2) (ds ++ es)
  | [], es, h, h2 => h2.mono (Nat.le_refl _) (by omega)
  | d :: ds, es, h, h2 => by
    have e : (smallD d && smallDs ds) = true := h.sm
    rw [Bool.and_eq_true] at e
    have e2 : max d.depth (PyData.depthAll ds) ≤ k := h.dp
    rw [Nat.max_le] at e2
    have e3 : d.bulk + 1 + PyData.bulkAll ds ≤ b1 := h.bk
    have r := Sms.append (b1 := PyData.bulkAll ds) (b2 := b2) ⟨e.2, e2.2, Nat.le_refl _⟩ h2
    exact (Sms.cons (b1 := d.bulk) ⟨e.1, e2.1, Nat.le_refl _⟩ r).mono (Nat.le_refl _) (by omega)
theorem Sm.fine {k b : Nat} {d : PyData} (h : Sm k b d) (hk : k ≤ 64) (hb : b ≤ 1000000) : Fine d := by
  refine ⟨?_, small_show d h.sm, ?_⟩
  · unfold SeqAt.shaped
    rw [small_lay d h.sm, Bool.true_and]
    exact decide_eq_true (Nat.le_trans h.dp hk)
  · have r := PyData.shown_le_bulk 13 (by decide) d (small_leaf d h.sm)
    have := h.bk
    show _ ≤ 16777216
    omega
end VI
set_option Elab.async false
set_option linter.all false
set_option maxRecDepth 100000
namespace VI
open PySem PySem.Spec PyProof.Rows L2

/-! comprehensions whose parts leave the store -/
abbrev iw (i : Int) : W := .d (.int i)
abbrev tu (xs : List PyData) : W := .d (.tuple xs)
abbrev sw (x : Str) : W := .d (.str x)
theorem ret_ok {r : RF} {w : W} {S : Store} (h : r = .ret w S) : toR r = .ok w S := by rw [h]; rfl
theorem frz_same {x : PyData} {S : Store} : frz S.length (.ok (.d x) S : R W) = .ok (.d x) S := by
  show R.ok _ (S.take S.length) = _
  rw [List.take_length]
def Same (S S' : Store) : Prop := S.length ≤ S'.length ∧ ∀ i, i < S.length → S'[i]? = S[i]?
theorem Same.refl (S : Store) : Same S S := ⟨Nat.le_refl _, fun _ _ => rfl⟩
theorem Same.push (S : Store) (o : SO) : Same S (S ++ [o]) := ⟨by rw [List.length_append]; omega, fun i h => List.getElem?_append_left h⟩
theorem Same.set {S S' : Store} (h : Same S S') {c : Nat} {o : SO} (hc : S.length ≤ c) : Same S (S'.set c o) := ⟨by rw [List.length_set]; exact h.1, fun i hi => by rw [List.getElem?_set_ne (by omega)]; exact h.2 i hi⟩
theorem Same.trans {S S' S2 : Store} (h : Same S S') (h2 : Same S' S2) : Same S S2 := ⟨Nat.le_trans h.1 h2.1, fun i hi => by rw [h2.2 i (by have := h.1; omega)]; exact h.2 i hi⟩
theorem Same.at {S S' : Store} (h : Same S S') {i : Nat} {o : SO} (e : S[i]? = some o) : S'[i]? = some o := by
  rw [h.2 i (List.getElem?_eq_some_iff.mp e).1]
  exact e
theorem lc_gen {S0 : Store} {ok : Store → Prop} {g : FG} {t : FT} {el : FE} {ρ : Rho} {c : Nat} {f : W → PyData} {b : W → Bool} (hc : S0.length ≤ c) (hok : ∀ S', Same S0 S' → ok S') : ∀ (ws : List W) (acc : List PyData) (S : Store), Same S0 S → S[c]? = some (.lst acc) → acc.length + ws.length < 1000000 →
    (∀ w ∈ ws, ∀ S', Same S0 S' → ∃ ρ1, g w ρ = some ρ1 ∧ t ρ1 S' = .ok (b w) S' ∧ (b w = true → el ρ1 S' = .ok (.d (f w)) S')) →
    lcL ok g t el ρ c ws S = .ok (.loc c) (S.set c (.lst (acc ++ (ws.filter b).map f)))
  | [], acc, S, hs, hS, hz, he => by
    simp only [lcL, if_pos (hok S hs), List.filter_nil, List.map_nil, List.append_nil]
    rw [set_same hS]
  | w :: ws, acc, S, hs, hS, hz, he => by
    rw [List.length_cons] at hz
    obtain ⟨ρ1, eg, et, ee⟩ := he w (by simp) S hs
    rw [lcL, if_pos (hok S hs), eg]
    simp only [et, noX_ok, R_ok]
    cases hb : b w with
    | false =>
      have ih := lc_gen hc hok (f := f) (b := b) (t := t) (el := el) (g := g) (ρ := ρ) ws acc S hs hS (by omega) fun w' m => he w' (by simp [m])
      simp only [Bool.false_eq_true, if_false]
      rw [ih, List.filter_cons_of_neg (by simp [hb])]
    | true =>
      have pt : lcPut c (.d (f w)) S = some (S.set c (.lst (acc ++ [f w]))) := by
        simp only [lcPut, hS, if_pos (show acc.length < lim by show acc.length < 16777216; omega)]
      have ih := lc_gen hc hok (f := f) (b := b) (t := t) (el := el) (g := g) (ρ := ρ) ws (acc ++ [f w]) (S.set c (.lst (acc ++ [f w]))) (hs.set hc) (at_set hS) (by rw [List.length_append, List.length_singleton]; omega) fun w' m => he w' (by simp [m])
      simp only [if_true, ee hb, frz_same, noX_ok, R_ok, pt]
      rw [ih, List.set_set, List.filter_cons_of_pos hb, List.map_cons, List.append_assoc]
      rfl
theorem flcL_gen {it : FK} {g : FG} {t : FT} {el : FE} {vs : List Nat} {ρ : Rho} {S : Store} {ws : List W} {ok : Store → Prop} {f : W → PyData} {b : W → Bool} (hit : it ρ S = .ok ⟨ws, ok⟩ S) (hz : ws.length < 1000000) (hok : ∀ S', Same S S' → ok S')
    (he : ∀ w ∈ ws, ∀ S', Same S S' → ∃ ρ1, g w (wipeR ρ vs) = some ρ1 ∧ t ρ1 S' = .ok (b w) S' ∧ (b w = true → el ρ1 S' = .ok (.d (f w)) S')) :
    fLcL it g t el vs ρ S = .ok (.loc S.length) (S ++ [.lst ((ws.filter b).map f)]) := by
  have lp := lc_gen (S0 := S) (c := S.length) (ρ := wipeR ρ vs) (Nat.le_refl _) hok ws [] (S ++ [.lst []]) (Same.push S _) (by rw [List.getElem?_append_right (Nat.le_refl _), Nat.sub_self]; rfl) (by rw [List.length_nil]; omega) he
  unfold fLcL
  rw [hit, R_ok]
  show lcL _ _ _ _ _ S.length _ _ = _
  rw [lp]
  congr 1
  rw [List.set_append_right _ _ (Nat.le_refl _), Nat.sub_self, List.nil_append]
  rfl
theorem flc_gen {it : FK} {g : FG} {t : FT} {el : FE} {vs : List Nat} {ρ : Rho} {S : Store} {ws : List W} {ok : Store → Prop} {f : W → PyData} {b : W → Bool} (hit : it ρ S = .ok ⟨ws, ok⟩ S) (hz : ws.length < 1000000) (hok : ∀ S', Same S S' → ok S')
    (he : ∀ w ∈ ws, ∀ S', Same S S' → ∃ ρ1, g w (wipeR ρ vs) = some ρ1 ∧ t ρ1 S' = .ok (b w) S' ∧ (b w = true → el ρ1 S' = .ok (.d (f w)) S')) :
    fLc it g t el vs ρ S = .ok (.d (.list ((ws.filter b).map f))) S := by
  unfold fLc
  rw [flcL_gen hit hz hok he]
  have fw : frzW S.length (S ++ [.lst ((ws.filter b).map f)]) (.loc S.length) = some (.d (.list ((ws.filter b).map f))) := by
    unfold frzW
    rw [if_neg (by omega), List.getElem?_append_right (Nat.le_refl _), Nat.sub_self]
    rfl
  show (match frzW S.length (S ++ [.lst ((ws.filter b).map f)]) (.loc S.length) with | some w' => R.ok w' ((S ++ [SO.lst ((ws.filter b).map f)]).take S.length) | none => R.bad) = _
  rw [fw]
  show R.ok _ ((S ++ [SO.lst ((ws.filter b).map f)]).take S.length) = _
  rw [List.take_left]
theorem filter_yes {ws : List W} : ws.filter (fun _ => true) = ws := List.filter_eq_self.mpr fun _ _ => rfl
/-- without a test -/
theorem flc_all {it : FK} {g : FG} {el : FE} {vs : List Nat} {ρ : Rho} {S : Store} {ws : List W} {ok : Store → Prop} {f : W → PyData} (hit : it ρ S = .ok ⟨ws, ok⟩ S) (hz : ws.length < 1000000) (hok : ∀ S', Same S S' → ok S')
    (he : ∀ w ∈ ws, ∀ S', Same S S' → ∃ ρ1, g w (wipeR ρ vs) = some ρ1 ∧ el ρ1 S' = .ok (.d (f w)) S') : fLc it g fYes el vs ρ S = .ok (.d (.list (ws.map f))) S := by
  have := flc_gen (t := fYes) (b := fun _ => true) (f := f) hit hz hok fun w m S' s => by
    obtain ⟨ρ1, e1, e2⟩ := he w m S' s
    exact ⟨ρ1, e1, rfl, fun _ => e2⟩
  rw [filter_yes] at this
  exact this
theorem flcL_all {it : FK} {g : FG} {el : FE} {vs : List Nat} {ρ : Rho} {S : Store} {ws : List W} {ok : Store → Prop} {f : W → PyData} (hit : it ρ S = .ok ⟨ws, ok⟩ S) (hz : ws.length < 1000000) (hok : ∀ S', Same S S' → ok S')
    (he : ∀ w ∈ ws, ∀ S', Same S S' → ∃ ρ1, g w (wipeR ρ vs) = some ρ1 ∧ el ρ1 S' = .ok (.d (f w)) S') : fLcL it g fYes el vs ρ S = .ok (.loc S.length) (S ++ [.lst (ws.map f)]) := by
  have := flcL_gen (t := fYes) (b := fun _ => true) (f := f) hit hz hok fun w m S' s => by
    obtain ⟨ρ1, e1, e2⟩ := he w m S' s
    exact ⟨ρ1, e1, rfl, fun _ => e2⟩
  rw [filter_yes] at this
  exact this
/-- a walk over pure data -/
theorem it_pure {a : FE} {ρ : Rho} {S : Store} {x : PyData} {xs : List PyData} (ea : a ρ S = .ok (.d x) S) (hx : x = .list xs ∨ x = .tuple xs) : ∃ ok, (∀ S', ok S') ∧ fItS a ρ S = .ok ⟨xs.map W.d, ok⟩ S := by
  unfold fItS
  rw [ea]
  rcases hx with rfl | rfl
  · exact ⟨fun _ => True, fun _ => trivial, rfl⟩
  · exact ⟨fun _ => True, fun _ => trivial, rfl⟩
end VI
set_option Elab.async false
set_option linter.all false
set_option maxRecDepth 100000
namespace VI
open PySem PySem.Spec PyProof.Rows L2
/-! the text -/
def topS (i : Nat) : Stmt := PySem.Challenge.pw_kindsworn_k69_collections_by_shapes.main.body.getD i (.Pass ⟨0, 0, 0, 0⟩)
def clsT (i j : Nat) : Stmt := match topS i with
  | .ClassDef _ _ _ b _ _ _ _ _ _ _ => b.getD j (.Pass ⟨0, 0, 0, 0⟩)
  | s => s
/-- read_header -/
abbrev st0 : Stmt := topS 1
abbrev N0 : List Str := ["word", "told"]
abbrev P0 : List Str := ["word"]
theorem sc0 : FnScope N0 P0 (defScope st0) := ⟨rfl, rfl, rfl, by decide +kernel, rfl, by decide +kernel, by decide +kernel⟩
/-- size_at -/
abbrev st1 : Stmt := topS 2
abbrev N1 : List Str := ["heap", "address"]
abbrev P1 : List Str := ["heap", "address"]
theorem sc1 : FnScope N1 P1 (defScope st1) := ⟨rfl, rfl, rfl, by decide +kernel, rfl, by decide +kernel, by decide +kernel⟩
/-- object_at -/
abbrev st2 : Stmt := topS 3
abbrev N2 : List Str := ["heap", "address", "sort", "extra", "many"]
abbrev P2 : List Str := ["heap", "address"]
theorem sc2 : FnScope N2 P2 (defScope st2) := ⟨rfl, rfl, rfl, by decide +kernel, rfl, by decide +kernel, by decide +kernel⟩
/-- reached -/
abbrev st3 : Stmt := topS 5
abbrev N3 : List Str := ["heap", "roots", "found", "todo", "word"]
abbrev P3 : List Str := ["heap", "roots"]
theorem sc3 : FnScope N3 P3 (defScope st3) := ⟨rfl, rfl, rfl, by decide +kernel, rfl, by decide +kernel, by decide +kernel⟩
/-- reached_words -/
abbrev st4 : Stmt := topS 6
abbrev N4 : List Str := ["heap", "roots", "address"]
abbrev P4 : List Str := ["heap", "roots"]
theorem sc4 : FnScope N4 P4 (defScope st4) := ⟨rfl, rfl, rfl, by decide +kernel, rfl, by decide +kernel, by decide +kernel⟩
/-- Moving.moved_word -/
abbrev st5 : Stmt := clsT 7 1
abbrev N5 : List Str := ["self", "word", "address", "at"]
abbrev P5 : List Str := ["self", "word"]
theorem sc5 : FnScope N5 P5 (defScope st5) := ⟨rfl, rfl, rfl, by decide +kernel, rfl, by decide +kernel, by decide +kernel⟩
/-- Moving.move -/
abbrev st6 : Stmt := clsT 7 2
abbrev N6 : List Str := ["self", "roots", "told", "word", "at", "behind", "field"]
abbrev P6 : List Str := ["self", "roots"]
theorem sc6 : FnScope N6 P6 (defScope st6) := ⟨rfl, rfl, rfl, by decide +kernel, rfl, by decide +kernel, by decide +kernel⟩
/-- collected -/
abbrev st7 : Stmt := topS 8
abbrev N7 : List Str := ["heap", "room", "half", "roots", "target", "moving", "told", "filled", "empty"]
abbrev P7 : List Str := ["heap", "room", "half", "roots"]
theorem sc7 : FnScope N7 P7 (defScope st7) := ⟨rfl, rfl, rfl, by decide +kernel, rfl, by decide +kernel, by decide +kernel⟩
/-- _law_bag -/
abbrev st8 : Stmt := topS 10
abbrev N8 : List Str := ["script", "cell"]
abbrev P8 : List Str := ["script"]
theorem sc8 : FnScope N8 P8 (defScope st8) := ⟨rfl, rfl, rfl, by decide +kernel, rfl, by decide +kernel, by decide +kernel⟩
/-- _law_take -/
abbrev st9 : Stmt := topS 11
abbrev N9 : List Str := ["bag", "many", "cell", "stirred", "value", "begin", "second"]
abbrev P9 : List Str := ["bag", "many"]
theorem sc9 : FnScope N9 P9 (defScope st9) := ⟨rfl, rfl, rfl, by decide +kernel, rfl, by decide +kernel, by decide +kernel⟩
/-- _law_some -/
abbrev st10 : Stmt := topS 12
abbrev N10 : List Str := ["bag", "things"]
abbrev P10 : List Str := ["bag", "things"]
theorem sc10 : FnScope N10 P10 (defScope st10) := ⟨rfl, rfl, rfl, by decide +kernel, rfl, by decide +kernel, by decide +kernel⟩
/-- _law_alike -/
abbrev st11 : Stmt := topS 13
abbrev N11 : List Str := ["found", "due"]
abbrev P11 : List Str := ["found", "due"]
theorem sc11 : FnScope N11 P11 (defScope st11) := ⟨rfl, rfl, rfl, by decide +kernel, rfl, by decide +kernel, by decide +kernel⟩
/-- _law_header -/
abbrev st12 : Stmt := topS 14
abbrev N12 : List Str := ["sort", "extra", "many"]
abbrev P12 : List Str := ["sort", "extra", "many"]
theorem sc12 : FnScope N12 P12 (defScope st12) := ⟨rfl, rfl, rfl, by decide +kernel, rfl, by decide +kernel, by decide +kernel⟩
/-- _law_read -/
abbrev st13 : Stmt := topS 15
abbrev N13 : List Str := ["heap", "address", "head", "many"]
abbrev P13 : List Str := ["heap", "address"]
theorem sc13 : FnScope N13 P13 (defScope st13) := ⟨rfl, rfl, rfl, by decide +kernel, rfl, by decide +kernel, by decide +kernel⟩
/-- _law_reached -/
abbrev st14 : Stmt := topS 16
abbrev N14 : List Str := ["heap", "words", "found", "line", "word", "address"]
abbrev P14 : List Str := ["heap", "words"]
theorem sc14 : FnScope N14 P14 (defScope st14) := ⟨rfl, rfl, rfl, by decide +kernel, rfl, by decide +kernel, by decide +kernel⟩
/-- _law_collected -/
abbrev st15 : Stmt := topS 17
abbrev N15 : List Str := ["heap", "room", "half", "words", "begin", "places", "order", "free", "word", "at", "found", "address", "sort", "extra", "fields", "row", "one"]
abbrev P15 : List Str := ["heap", "room", "half", "words"]
theorem sc15 : FnScope N15 P15 (defScope st15) := ⟨rfl, rfl, rfl, by decide +kernel, rfl, by decide +kernel, by decide +kernel⟩
/-- _law_placed -/
abbrev st16 : Stmt := topS 18
abbrev N16 : List Str := ["heap", "word", "places", "order", "free", "address"]
abbrev P16 : List Str := ["heap", "word", "places", "order", "free"]
theorem sc16 : FnScope N16 P16 (defScope st16) := ⟨rfl, rfl, rfl, by decide +kernel, rfl, by decide +kernel, by decide +kernel⟩
/-- _law_sort_for -/
abbrev st17 : Stmt := topS 19
abbrev N17 : List Str := ["bag", "many", "extras", "sort"]
abbrev P17 : List Str := ["bag", "many", "extras"]
theorem sc17 : FnScope N17 P17 (defScope st17) := ⟨rfl, rfl, rfl, by decide +kernel, rfl, by decide +kernel, by decide +kernel⟩
/-- _law_heap_drawn -/
abbrev st18 : Stmt := topS 20
abbrev N18 : List Str := ["bag", "sizes", "turn", "half", "room", "heap", "places", "at", "size", "place", "sort", "extra", "fields", "k"]
abbrev P18 : List Str := ["bag"]
theorem sc18 : FnScope N18 P18 (defScope st18) := ⟨rfl, rfl, rfl, by decide +kernel, rfl, by decide +kernel, by decide +kernel⟩
/-- _law_shape -/
abbrev st19 : Stmt := topS 21
abbrev N19 : List Str := ["heap", "words", "met", "found", "line", "word", "sort", "extra", "fields"]
abbrev P19 : List Str := ["heap", "words"]
theorem sc19 : FnScope N19 P19 (defScope st19) := ⟨rfl, rfl, rfl, by decide +kernel, rfl, by decide +kernel, by decide +kernel⟩
/-- _law_is_chain_right -/
abbrev st20 : Stmt := topS 22
abbrev N20 : List Str := ["many", "room", "heap", "due", "at"]
abbrev P20 : List Str := ["many"]
theorem sc20 : FnScope N20 P20 (defScope st20) := ⟨rfl, rfl, rfl, by decide +kernel, rfl, by decide +kernel, by decide +kernel⟩
/-- law -/
abbrev st21 : Stmt := topS 23
abbrev N21 : List Str := ["script", "bag", "turn", "heap", "room", "half", "places", "roots", "k", "shown", "some", "words", "address", "due", "told", "again"]
abbrev P21 : List Str := ["script"]
theorem sc21 : FnScope N21 P21 (defScope st21) := ⟨rfl, rfl, rfl, by decide +kernel, rfl, by decide +kernel, by decide +kernel⟩
/-- Moving.__init__ -/
abbrev st22 : Stmt := clsT 7 0
abbrev N22 : List Str := ["self", "words", "start", "target"]
abbrev P22 : List Str := ["self", "words", "start", "target"]
theorem sc22 : FnScope N22 P22 (defScope st22) := ⟨rfl, rfl, rfl, by decide +kernel, rfl, by decide +kernel, by decide +kernel⟩
/-! what they do -/
abbrev Calls := Nat → List W → Store → R W
/-- read_header -/
noncomputable def b0 (call : Calls) : FS := (fSeq (fAsg (f2 gDiv (fVar 0) (fC (.int 2))) (gtName 1)) (fRet (fL gTup (fAc (f2 gMod (fVar 1) (fC (.int 5))) (fAc (f2 gDiv (f2 gDiv (fVar 1) (fC (.int 5))) (fC (.int 256))) (fAc (f2 gMod (f2 gDiv (fVar 1) (fC (.int 5))) (fC (.int 256))) fA0))))))
/-- size_at -/
noncomputable def b1 (call : Calls) : FS := (fRet (f2 gAdd (f2 gIx (fCall 1 (call 0) (fAc (f2 gIx (fVar 0) (fVar 1)) fA0)) (fC (.int 2))) (fC (.int 1))))
/-- object_at -/
noncomputable def b2 (call : Calls) : FS := (fSeq (fAsg (fCall 1 (call 0) (fAc (f2 gIx (fVar 0) (fVar 1)) fA0)) (gtTup 3 (gtCons (gtName 2) (gtCons (gtName 3) (gtCons (gtName 4) gtNil))))) (fRet (fL gTup (fAc (fVar 2) (fAc (fVar 3) (fAc (fL gTupleA (fAc (fSl gSlA (fVar 0) (fPart (f2 gAdd (fVar 1) (fC (.int 1)))) (fPart (f2 gAdd (f2 gAdd (fVar 1) (fC (.int 1))) (fVar 4)))) fA0)) fA0))))))
/-- reached -/
noncomputable def b3 (call : Calls) : FS := (fSeq (fAsg fDnew (gtName 2)) (fSeq (fAsg (fL gListL (fAc (fVar 1) fA0)) (gtName 3)) (fSeq (whileL (fTest (f2 gGt (fL gLen (fAc (fVar 3) fA0)) (fC (.int 0)))) (fSeq (fAsg (fMeth0 mPop (fVar 3)) (gtName 4)) (fIf (fAndT (fTest (f2 gEq (f2 gMod (fVar 4) (fC (.int 2))) (fC (.int 0)))) (fTest (f2 gNotInD (f2 gDiv (fVar 4) (fC (.int 2))) (fVar 2)))) (fSeq (fDput (fC (.bool true)) (fVar 2) (f2 gDiv (fVar 4) (fC (.int 2)))) (fDrop (fMeth mExtendA (fVar 3) (fAc (f2 gIx (fCall 2 (call 2) (fAc (fVar 0) (fAc (f2 gDiv (fVar 4) (fC (.int 2))) fA0))) (fC (.int 2))) fA0)))) fNext)) 1000000) (fRet (fL gTupleA (fAc (fL gSortX (fAc (fVar 2) fA0)) fA0))))))
/-- reached_words -/
noncomputable def b4 (call : Calls) : FS := (fRet (fL gSum (fAc (fLc (fItS (fCall 2 (call 3) (fAc (fVar 0) (fAc (fVar 1) fA0)))) (gtName 2) fYes (fCall 2 (call 1) (fAc (fVar 0) (fAc (fVar 2) fA0))) [2]) fA0)))
/-- Moving.moved_word -/
noncomputable def b5 (call : Calls) : FS := (fSeq (fIf (fTest (f2 gEq (f2 gMod (fVar 1) (fC (.int 2))) (fC (.int 1)))) (fRet (fVar 1)) fNext) (fSeq (fAsg (f2 gDiv (fVar 1) (fC (.int 2))) (gtName 2)) (fSeq (fIf (fTest (f2 gNotInD (fVar 2) (f1 (gFld "Moving" "found") (fVar 0)))) (fSeq (fDput (f2 gAdd (f1 (gFld "Moving" "target") (fVar 0)) (fL gLen (fAc (f1 (gFld "Moving" "moved") (fVar 0)) fA0))) (f1 (gFld "Moving" "found") (fVar 0)) (fVar 2)) (fSeq (fAsg (f2 gSub (fVar 2) (f1 (gFld "Moving" "start") (fVar 0))) (gtName 3)) (fDrop (fMeth mExtendA (f1 (gFld "Moving" "moved") (fVar 0)) (fAc (fL gList (fAc (fSl gSlA (f1 (gFld "Moving" "words") (fVar 0)) (fPart (fVar 3)) (fPart (f2 gAdd (fVar 3) (fCall 2 (call 1) (fAc (f1 (gFld "Moving" "words") (fVar 0)) (fAc (fVar 3) fA0)))))) fA0)) fA0))))) fNext) (fRet (f2 gMulA (fC (.int 2)) (f2 gIxA (f1 (gFld "Moving" "found") (fVar 0)) (fVar 2)))))))
/-- Moving.move -/
noncomputable def b6 (call : Calls) : FS := (fSeq (fAsg (fLc (fItS (fVar 1)) (gtName 3) fYes (fMethC "Moving" "moved_word" 2 (call 5) (fVar 0) (fAc (fVar 3) fA0)) [3]) (gtName 2)) (fSeq (fAsg (fC (.int 0)) (gtName 4)) (fSeq (whileL (fTest (f2 gLt (fVar 4) (fL gLen (fAc (f1 (gFld "Moving" "moved") (fVar 0)) fA0)))) (fSeq (fAsg (f2 gAdd (f2 gAdd (fVar 4) (fC (.int 1))) (f2 gIx (fCall 1 (call 0) (fAc (f2 gIx (f1 (gFld "Moving" "moved") (fVar 0)) (fVar 4)) fA0)) (fC (.int 2)))) (gtName 5)) (fSeq (fFor (fRng rng2 (fAc (f2 gAdd (fVar 4) (fC (.int 1))) (fAc (fVar 5) fA0))) (gtName 6) (fStore (fMethC "Moving" "moved_word" 2 (call 5) (fVar 0) (fAc (f2 gIx (f1 (gFld "Moving" "moved") (fVar 0)) (fVar 6)) fA0)) (f1 (gFld "Moving" "moved") (fVar 0)) (fVar 6))) (fAsg (fVar 5) (gtName 4)))) 1000000) (fRet (fVar 2)))))
/-- collected -/
noncomputable def b7 (call : Calls) : FS := (fSeq (fAsg (f2 gMulA (f2 gSub (fC (.int 1)) (fVar 2)) (fVar 1)) (gtName 4)) (fSeq (fAsg (fCallL 3 (call 22) (fAc (fVar 0) (fAc (fC (.int 0)) (fAc (fVar 4) fA0)))) (gtName 5)) (fSeq (fAsg (fL gTupleA (fAc (fMethC "Moving" "move" 2 (call 6) (fVar 5) (fAc (fVar 3) fA0)) fA0)) (gtName 6)) (fSeq (fAsg (f2 gAdd (fL gTupleA (fAc (f1 (gFld "Moving" "moved") (fVar 5)) fA0)) (f2 gMulC (fL gTup (fAc (fC (.int 0)) fA0)) (f2 gSub (fVar 1) (fL gLen (fAc (f1 (gFld "Moving" "moved") (fVar 5)) fA0))))) (gtName 7)) (fSeq (fAsg (f2 gMulC (fL gTup (fAc (fC (.int 0)) fA0)) (fVar 1)) (gtName 8)) (fRet (fL gTup (fAc (fIfE (fTest (f2 gEq (fVar 2) (fC (.int 1)))) (f2 gAdd (fVar 7) (fVar 8)) (f2 gAdd (fVar 8) (fVar 7))) (fAc (f2 gAdd (fVar 4) (fL gLen (fAc (f1 (gFld "Moving" "moved") (fVar 5)) fA0))) (fAc (fVar 6) fA0))))))))))
/-- _law_bag -/
noncomputable def b8 (call : Calls) : FS := (fRet (fL gLive (fAc (fC (.int 0)) (fAc (fC (.int 1234567891)) (fAc (fC (.int 0)) (fAc (fLc (fItS (fSl gSlA (fVar 0) fNoPart (fPart (fC (.int 63))))) (gtName 1) fYes (fL gAbs (fAc (fVar 1) fA0)) [1]) fA0))))))
/-- _law_take -/
noncomputable def b9 (call : Calls) : FS := (fSeq (fIf (fTest (f2 gEq (f2 gIx (fVar 0) (fC (.int 0))) (fC (.int 0)))) (fSeq (fAsg (f2 gIx (f2 gAdd (fSl gSlA (f2 gIx (fVar 0) (fC (.int 3))) (fPart (f2 gIx (fVar 0) (fC (.int 2)))) fNoPart) (fL gLst (fAc (fC (.int 0)) fA0))) (fC (.int 0))) (gtName 2)) (fSeq (fAugAt (fVar 0) (fC (.int 2)) (gI2 (fun _ _ => true) fun i j => .int (i + j)) (fC (.int 1))) (fSeq (fIf (fTest (f2 gGe (fVar 2) (f2 gPow (fC (.int 10)) (fC (.int 18))))) (fStore (fVar 2) (fVar 0) (fC (.int 0))) fNext) (fSeq (fAsg (f2 gAdd (f2 gAdd (f2 gMulA (f2 gIx (fVar 0) (fC (.int 1))) (fC (.int 48271))) (f2 gMod (fL gIntA (fAc (fVar 2) fA0)) (fC (.int 2147483647)))) (f2 gMulA (fC (.int 7919)) (f2 gIx (fVar 0) (fC (.int 2))))) (gtName 3)) (fStore (f2 gMod (fL gIntA (fAc (fVar 3) fA0)) (fC (.int 2147483647))) (fVar 0) (fC (.int 1))))))) fNext) (fSeq (fIf (fTest (f2 gGt (f2 gIx (fVar 0) (fC (.int 0))) (fC (.int 0)))) (fSeq (fAsg (f2 gMod (fL gIntA (fAc (f2 gIx (fVar 0) (fC (.int 0))) fA0)) (fVar 1)) (gtName 4)) (fSeq (fStore (f2 gDiv (fL gIntA (fAc (f2 gIx (fVar 0) (fC (.int 0))) fA0)) (fVar 1)) (fVar 0) (fC (.int 0))) (fRet (fVar 4)))) fNext) (fSeq (fAsg (f2 gMod (fL gIntA (fAc (f2 gMulA (f2 gAdd (f2 gIx (fVar 0) (fC (.int 1))) (fC (.int 1))) (fC (.int 39373))) fA0)) (fC (.int 1000000007))) (gtName 5)) (fSeq (fAsg (f2 gMod (fL gIntA (fAc (f2 gMulA (f2 gMod (fL gIntA (fAc (f2 gMulA (fVar 5) (fVar 5)) fA0)) (fC (.int 998244353))) (fC (.int 30011))) fA0)) (fC (.int 998244353))) (gtName 6)) (fRet (f2 gMod (fL gIntA (fAc (f2 gDiv (fVar 6) (fC (.int 7))) fA0)) (fVar 1)))))))
/-- _law_some -/
noncomputable def b10 (call : Calls) : FS := (fRet (f2 gIx (fVar 1) (fCall 2 (call 9) (fAc (fVar 0) (fAc (fL gLen (fAc (fVar 1) fA0)) fA0)))))
/-- _law_alike -/
noncomputable def b11 (call : Calls) : FS := (fRet (fAndV (f2 gEq (fVar 0) (fVar 1)) (f2 gEq (fL gRepr (fAc (fVar 0) fA0)) (fL gRepr (fAc (fVar 1) fA0)))))
/-- _law_header -/
noncomputable def b12 (call : Calls) : FS := (fRet (f2 gAdd (f2 gMulA (fC (.int 2)) (f2 gAdd (f2 gMulA (fC (.int 5)) (f2 gAdd (f2 gMulA (fC (.int 256)) (fVar 1)) (fVar 2))) (fVar 0))) (fC (.int 1))))
/-- _law_read -/
noncomputable def b13 (call : Calls) : FS := (fSeq (fAsg (f2 gDiv (f2 gSub (f2 gIx (fVar 0) (fVar 1)) (fC (.int 1))) (fC (.int 2))) (gtName 2)) (fSeq (fAsg (f2 gMod (fL gIntA (fAc (f2 gDiv (fL gIntA (fAc (fVar 2) fA0)) (fC (.int 5))) fA0)) (fC (.int 256))) (gtName 3)) (fRet (fL gTup (fAc (f2 gMod (fL gIntA (fAc (fVar 2) fA0)) (fC (.int 5))) (fAc (f2 gDiv (fL gIntA (fAc (fVar 2) fA0)) (fC (.int 1280))) (fAc (fL gTupleA (fAc (fSl gSlA (fVar 0) (fPart (f2 gAdd (fVar 1) (fC (.int 1)))) (fPart (f2 gAdd (f2 gAdd (fVar 1) (fC (.int 1))) (fVar 3)))) fA0)) fA0)))))))
/-- _law_reached -/
noncomputable def b14 (call : Calls) : FS := (fSeq (fPar 2 3 (fAc (fL gLive fA0) (fAc (fLcL (fItS (fVar 1)) (gtName 4) (fTest (f2 gEq (f2 gMod (fL gIntA (fAc (fVar 4) fA0)) (fC (.int 2))) (fC (.int 0)))) (fVar 4) [4]) fA0))) (fSeq (whileL (fTest (f2 gNe (fVar 3) (fL gLst fA0))) (fSeq (fAsg (f2 gDiv (fL gIntA (fAc (fMeth0 mPop (fVar 3)) fA0)) (fC (.int 2))) (gtName 5)) (fIf (fTest (f2 (gIn true) (fVar 5) (fVar 2))) (fSeq (fDrop (fMeth mAppend (fVar 2) (fAc (fVar 5) fA0))) (fDrop (fMeth mExtendA (fVar 3) (fAc (fLc (fItS (f2 gIx (fCall 2 (call 13) (fAc (fVar 0) (fAc (fVar 5) fA0))) (fC (.int 2)))) (gtName 4) (fTest (f2 gEq (f2 gMod (fL gIntA (fAc (fVar 4) fA0)) (fC (.int 2))) (fC (.int 0)))) (fVar 4) [4]) fA0)))) fNext)) 1000000) (fRet (fL gSortX (fAc (fVar 2) fA0)))))
/-- _law_collected -/
noncomputable def b15 (call : Calls) : FS := (fSeq (fAsg (f2 gMulA (f2 gSub (fC (.int 1)) (fVar 2)) (fVar 1)) (gtName 4)) (fSeq (fAsg (fL gTup (fAc fDnew (fAc (fL gLive fA0) (fAc (fVar 4) fA0)))) (gtTup 3 (gtCons (gtName 5) (gtCons (gtName 6) (gtCons (gtName 7) gtNil))))) (fSeq (fFor (fItS (fVar 3)) (gtName 8) (fAsg (fCall 5 (call 16) (fAc (fVar 0) (fAc (fVar 8) (fAc (fVar 5) (fAc (fVar 6) (fAc (fVar 7) fA0)))))) (gtName 7))) (fSeq (fAsg (fC (.int 0)) (gtName 9)) (fSeq (whileL (fTest (f2 gLt (fVar 9) (fL gLen (fAc (fVar 6) fA0)))) (fSeq (fFor (fItS (f2 gIx (fCall 2 (call 13) (fAc (fVar 0) (fAc (f2 gIx (fVar 6) (fVar 9)) fA0))) (fC (.int 2)))) (gtName 8) (fAsg (fCall 5 (call 16) (fAc (fVar 0) (fAc (fVar 8) (fAc (fVar 5) (fAc (fVar 6) (fAc (fVar 7) fA0)))))) (gtName 7))) (fAug 9 (gI2 (fun _ _ => true) fun i j => .int (i + j)) (fC (.int 1)))) 1000000) (fSeq (fAsg (f2 gMulL (fL gLst (fAc (fC (.int 0)) fA0)) (f2 gMulA (fC (.int 2)) (fVar 1))) (gtName 10)) (fSeq (fFor (fItS (fVar 6)) (gtName 11) (fSeq (fAsg (fCall 2 (call 13) (fAc (fVar 0) (fAc (fVar 11) fA0))) (gtTup 3 (gtCons (gtName 12) (gtCons (gtName 13) (gtCons (gtName 14) gtNil))))) (fSeq (fAsg (f2 gAdd (fL gLst (fAc (f2 gIx (fVar 0) (fVar 11)) fA0)) (fLc (fItS (fVar 14)) (gtName 16) fYes (fIfE (fTest (f2 gEq (f2 gMod (fL gIntA (fAc (fVar 16) fA0)) (fC (.int 2))) (fC (.int 0)))) (f2 gMulA (fC (.int 2)) (f2 gIxA (fVar 5) (f2 gDiv (fL gIntA (fAc (fVar 16) fA0)) (fC (.int 2))))) (fVar 16)) [16])) (gtName 15)) (fStoreSl (fVar 15) (fVar 10) (f2 gIxA (fVar 5) (fVar 11)) (f2 gAdd (f2 gIxA (fVar 5) (fVar 11)) (fL gLen (fAc (fVar 15) fA0))))))) (fRet (fL gTup (fAc (fVar 10) (fAc (fVar 7) (fAc (fLc (fItS (fVar 3)) (gtName 16) fYes (fIfE (fTest (f2 gEq (f2 gMod (fL gIntA (fAc (fVar 16) fA0)) (fC (.int 2))) (fC (.int 0)))) (f2 gMulA (fC (.int 2)) (f2 gIxA (fVar 5) (f2 gDiv (fL gIntA (fAc (fVar 16) fA0)) (fC (.int 2))))) (fVar 16)) [16]) fA0))))))))))))
/-- _law_placed -/
noncomputable def b16 (call : Calls) : FS := (fSeq (fAsg (f2 gDiv (fL gIntA (fAc (fVar 1) fA0)) (fC (.int 2))) (gtName 5)) (fSeq (fIf (fOrT (fTest (f2 gEq (f2 gMod (fL gIntA (fAc (fVar 1) fA0)) (fC (.int 2))) (fC (.int 1)))) (fTest (f2 gInD (fVar 5) (fVar 2)))) (fRet (fVar 4)) fNext) (fSeq (fDput (fVar 4) (fVar 2) (fVar 5)) (fSeq (fDrop (fMeth mAppend (fVar 3) (fAc (fVar 5) fA0))) (fRet (f2 gAdd (f2 gAdd (fVar 4) (fC (.int 1))) (fL gLen (fAc (f2 gIx (fCall 2 (call 13) (fAc (fVar 0) (fAc (fVar 5) fA0))) (fC (.int 2))) fA0))))))))
/-- _law_sort_for -/
noncomputable def b17 (call : Calls) : FS := (fSeq (fAsg (fIfE (fTest (f2 gEq (fVar 1) (fC (.int 0)))) (fC (.int 4)) (fCall 2 (call 10) (fAc (fVar 0) (fAc (fIfE (fTest (f2 gEq (fVar 1) (fC (.int 1)))) (fL gLst (fAc (fC (.int 0)) (fAc (fC (.int 1)) (fAc (fC (.int 4)) (fAc (fC (.int 2)) (fAc (fC (.int 3)) fA0)))))) (fL gLst (fAc (fC (.int 0)) (fAc (fC (.int 1)) (fAc (fC (.int 4)) fA0))))) fA0)))) (gtName 3)) (fRet (fL gTup (fAc (fVar 3) (fAc (fIfE (fTest (f2 gEq (fVar 3) (fC (.int 0)))) (fC (.int 0)) (fCall 2 (call 10) (fAc (fVar 0) (fAc (fVar 2) fA0)))) fA0)))))
/-- _law_heap_drawn -/
noncomputable def b18 (call : Calls) : FS := (fSeq (fAsg (fLc (fRng rng1 (fAc (fCall 2 (call 10) (fAc (fVar 0) (fAc (fL gLst (fAc (fC (.int 6)) (fAc (fC (.int 3)) (fAc (fC (.int 14)) (fAc (fC (.int 0)) (fAc (fC (.int 9)) fA0)))))) fA0))) fA0)) (gtName 2) fYes (fCall 2 (call 9) (fAc (fVar 0) (fAc (fC (.int 4)) fA0))) [2]) (gtName 1)) (fSeq (fAsg (fCall 2 (call 9) (fAc (fVar 0) (fAc (fC (.int 2)) fA0))) (gtName 3)) (fSeq (fAsg (f2 gAdd (f2 gAdd (fL gSum (fAc (fVar 1) fA0)) (fL gLen (fAc (fVar 1) fA0))) (fCall 2 (call 10) (fAc (fVar 0) (fAc (fL gLst (fAc (fC (.int 0)) (fAc (fC (.int 0)) (fAc (fC (.int 3)) (fAc (fC (.int 20)) fA0))))) fA0)))) (gtName 4)) (fSeq (fPar3 5 6 7 (fAc (f2 gMulL (fL gLst (fAc (fC (.int 0)) fA0)) (f2 gMulA (fC (.int 2)) (fVar 4))) (fAc (fL gLive fA0) (fAc (f2 gMulA (fVar 3) (fVar 4)) fA0)))) (fSeq (fFor (fItS (fVar 1)) (gtName 8) (fSeq (fDrop (fMeth mAppend (fVar 6) (fAc (fVar 7) fA0))) (fAug 7 (gI2 (fun _ _ => true) fun i j => .int (i + j)) (f2 gAdd (fC (.int 1)) (fVar 8))))) (fSeq (fFor (fRng zipK (fAc (fVar 6) (fAc (fVar 1) fA0))) (gtTup 2 (gtCons (gtName 9) (gtCons (gtName 8) gtNil))) (fSeq (fAsg (fCall 3 (call 17) (fAc (fVar 0) (fAc (fVar 8) (fAc (fL gLst (fAc (fC (.int 0)) (fAc (fC (.int 1)) (fAc (fC (.int 2)) (fAc (fC (.int 5)) fA0))))) fA0)))) (gtTup 2 (gtCons (gtName 10) (gtCons (gtName 11) gtNil)))) (fSeq (fAsg (fL gLive fA0) (gtName 12)) (fSeq (fFor (fRng rng1 (fAc (fVar 8) fA0)) (gtName 13) (fDrop (fMeth mAppend (fVar 12) (fAc (fIfE (fTest (f2 gGt (fCall 2 (call 9) (fAc (fVar 0) (fAc (fC (.int 3)) fA0))) (fC (.int 0)))) (f2 gMulA (fC (.int 2)) (fCall 2 (call 10) (fAc (fVar 0) (fAc (fVar 6) fA0)))) (fCall 2 (call 10) (fAc (fVar 0) (fAc (fL gLst (fAc (fC (.int 11)) (fAc (fC (.int 5)) (fAc (fC (.int 13)) (fAc (f1 gNeg (fC (.int 29))) fA0))))) fA0)))) fA0)))) (fStoreSl (f2 gAdd (fL gLst (fAc (fCall 3 (call 12) (fAc (fVar 10) (fAc (fVar 11) (fAc (fVar 8) fA0)))) fA0)) (fVar 12)) (fVar 5) (fVar 9) (f2 gAdd (f2 gAdd (fVar 9) (fC (.int 1))) (fVar 8))))))) (fRet (fL gTup (fAc (fL gTupleA (fAc (fVar 5) fA0)) (fAc (fVar 4) (fAc (fVar 3) (fAc (fVar 6) fA0))))))))))))
/-- _law_shape -/
noncomputable def b19 (call : Calls) : FS := (fSeq (fPar3 2 3 4 (fAc fDnew (fAc (fL gLive fA0) (fAc (fL gListL (fAc (fVar 1) fA0)) fA0)))) (fSeq (whileL (fTest (f2 gNe (fVar 4) (fL gLst fA0))) (fSeq (fAsg (fMeth mPopAt (fVar 4) (fAc (fC (.int 0)) fA0)) (gtName 5)) (fIf (fTest (f2 gEq (f2 gMod (fL gIntA (fAc (fVar 5) fA0)) (fC (.int 2))) (fC (.int 1)))) (fDrop (fMeth mAppend (fVar 3) (fAc (fVar 5) fA0))) (fIf (fTest (f2 gInD (fVar 5) (fVar 2))) (fDrop (fMeth mAppend (fVar 3) (fAc (fL gTup (fAc (fC (.str "again")) (fAc (f2 gIxA (fVar 2) (fVar 5)) fA0))) fA0))) (fSeq (fDput (fL gLenD (fAc (fVar 2) fA0)) (fVar 2) (fVar 5)) (fSeq (fAsg (fCall 2 (call 13) (fAc (fVar 0) (fAc (f2 gDiv (fL gIntA (fAc (fVar 5) fA0)) (fC (.int 2))) fA0))) (gtTup 3 (gtCons (gtName 6) (gtCons (gtName 7) (gtCons (gtName 8) gtNil))))) (fSeq (fDrop (fMeth mAppend (fVar 3) (fAc (fL gTup (fAc (fVar 6) (fAc (fVar 7) (fAc (fL gLen (fAc (fVar 8) fA0)) fA0)))) fA0))) (fDrop (fMeth mExtendA (fVar 4) (fAc (fL gList (fAc (fVar 8) fA0)) fA0))))))))) 1000000) (fRet (fVar 3))))
/-- _law_is_chain_right -/
noncomputable def b20 (call : Calls) : FS := (fSeq (fPar3 1 2 3 (fAc (f2 gMulA (fC (.int 2)) (fVar 0)) (fAc (fL gLive fA0) (fAc (fL gLive fA0) fA0)))) (fSeq (fFor (fRng rng1 (fAc (fVar 0) fA0)) (gtName 4) (fSeq (fDrop (fMeth mExtendA (fVar 2) (fAc (fL gLst (fAc (fCall 3 (call 12) (fAc (fC (.int 3)) (fAc (fVar 4) (fAc (fC (.int 1)) fA0)))) (fAc (fIfE (fTest (f2 gLt (f2 gAdd (fVar 4) (fC (.int 1))) (fVar 0))) (f2 gMulA (fC (.int 4)) (f2 gAdd (fVar 4) (fC (.int 1)))) (fC (.int 11))) fA0))) fA0))) (fDrop (fMeth mExtendA (fVar 3) (fAc (fL gLst (fAc (fCall 3 (call 12) (fAc (fC (.int 3)) (fAc (fVar 4) (fAc (fC (.int 1)) fA0)))) (fAc (fIfE (fTest (f2 gLt (f2 gAdd (fVar 4) (fC (.int 1))) (fVar 0))) (f2 gAdd (f2 gMulA (fC (.int 2)) (fVar 1)) (f2 gMulA (fC (.int 4)) (f2 gAdd (fVar 4) (fC (.int 1))))) (fC (.int 11))) fA0))) fA0))))) (fSeq (fPar 2 3 (fAc (f2 gAddLL (fL gTupleA (fAc (fVar 2) fA0)) (f2 gMulC (fL gTup (fAc (fC (.int 0)) fA0)) (fVar 1))) (fAc (f2 gAddLL (f2 gMulC (fL gTup (fAc (fC (.int 0)) fA0)) (fVar 1)) (fL gTupleA (fAc (fVar 3) fA0))) fA0))) (fSeq (fIf (fNotT (fTru (fCall 2 (call 11) (fAc (fL gLst (fAc (fCall 2 (call 3) (fAc (fVar 2) (fAc (fL gTup (fAc (fC (.int 0)) fA0)) fA0))) (fAc (fCall 2 (call 4) (fAc (fVar 2) (fAc (fL gTup (fAc (fC (.int 0)) fA0)) fA0))) fA0))) (fAc (fL gLst (fAc (fL gTupRng (fAc (fC (.int 0)) (fAc (fVar 1) (fAc (fC (.int 2)) fA0)))) (fAc (fVar 1) fA0))) fA0))))) (fRet (fC (.bool false))) fNext) (fRet (fCall 2 (call 11) (fAc (fCall 4 (call 7) (fAc (fVar 2) (fAc (fVar 1) (fAc (fC (.int 0)) (fAc (fL gTup (fAc (fC (.int 0)) fA0)) fA0))))) (fAc (fL gTup (fAc (fVar 3) (fAc (f2 gMulA (fC (.int 2)) (fVar 1)) (fAc (fL gTup (fAc (f2 gMulA (fC (.int 2)) (fVar 1)) fA0)) fA0)))) fA0))))))))
/-- law -/
noncomputable def b21 (call : Calls) : FS := (fSeq (fAsg (fCallL 1 (call 8) (fAc (fVar 0) fA0)) (gtName 1)) (fSeq (fIf (fAndT (fTest (f2 gEq (fCall 2 (call 9) (fAc (fVar 1) (fAc (fC (.int 8)) fA0))) (fC (.int 0)))) (fNotT (fTru (fCall 1 (call 20) (fAc (fCall 2 (call 10) (fAc (fVar 1) (fAc (fL gLst (fAc (fC (.int 700)) (fAc (fC (.int 300)) fA0))) fA0))) fA0))))) (fRet (fC (.bool false))) fNext) (fSeq (fFor (fRng rng1 (fAc (fC (.int 4)) fA0)) (gtName 2) (fSeq (fAsg (fCall 1 (call 18) (fAc (fVar 1) fA0)) (gtTup 4 (gtCons (gtName 3) (gtCons (gtName 4) (gtCons (gtName 5) (gtCons (gtName 6) gtNil)))))) (fSeq (fAsg (fL gTup fA0) (gtName 7)) (fSeq (fFor (fRng rng1 (fAc (fCall 2 (call 9) (fAc (fVar 1) (fAc (fC (.int 6)) fA0))) fA0)) (gtName 8) (fAsg (f2 gAdd (fVar 7) (fL gTup (fAc (fIfE (fAndT (fTest (f2 gNe (fVar 6) (fL gLst fA0))) (fTest (f2 gGt (fCall 2 (call 9) (fAc (fVar 1) (fAc (fC (.int 4)) fA0))) (fC (.int 0))))) (f2 gMulA (fC (.int 2)) (fCall 2 (call 10) (fAc (fVar 1) (fAc (fVar 6) fA0)))) (fC (.int 11))) fA0))) (gtName 7))) (fSeq (fPar 9 10 (fAc (fL gRepr (fAc (fL gLst (fAc (fVar 3) (fAc (fVar 7) fA0))) fA0)) (fAc (fCall 2 (call 14) (fAc (fVar 3) (fAc (fVar 7) fA0))) fA0))) (fSeq (fAsg (fL gSum (fAc (fLc (fItS (fVar 10)) (gtName 12) fYes (f2 gAdd (fC (.int 1)) (fL gLen (fAc (f2 gIx (fCall 2 (call 13) (fAc (fVar 3) (fAc (fVar 12) fA0))) (fC (.int 2))) fA0))) [12]) fA0)) (gtName 11)) (fSeq (fIf (fNotT (fTru (fCall 2 (call 11) (fAc (fL gLst (fAc (fCall 2 (call 3) (fAc (fVar 3) (fAc (fVar 7) fA0))) (fAc (fCall 2 (call 4) (fAc (fVar 3) (fAc (fVar 7) fA0))) fA0))) (fAc (fL gLst (fAc (fL gTupleA (fAc (fVar 10) fA0)) (fAc (fVar 11) fA0))) fA0))))) (fRet (fC (.bool false))) fNext) (fSeq (fAsg (fCall 4 (call 15) (fAc (fVar 3) (fAc (fVar 4) (fAc (fVar 5) (fAc (fL gList (fAc (fVar 7) fA0)) fA0))))) (gtName 13)) (fSeq (fAsg (fCall 4 (call 7) (fAc (fVar 3) (fAc (fVar 4) (fAc (fVar 5) (fAc (fVar 7) fA0))))) (gtName 14)) (fSeq (fIf (fNotT (fTru (fCall 2 (call 11) (fAc (fVar 14) (fAc (fL gTup (fAc (fL gTupleA (fAc (f2 gIx (fVar 13) (fC (.int 0))) fA0)) (fAc (f2 gIx (fVar 13) (fC (.int 1))) (fAc (fL gTupleA (fAc (f2 gIx (fVar 13) (fC (.int 2))) fA0)) fA0)))) fA0))))) (fRet (fC (.bool false))) fNext) (fSeq (fIf (fOrT (fTest (f2 gNe (fCall 2 (call 19) (fAc (f2 gIx (fVar 14) (fC (.int 0))) (fAc (f2 gIx (fVar 14) (fC (.int 2))) fA0))) (fCall 2 (call 19) (fAc (fVar 3) (fAc (fVar 7) fA0))))) (fTest (f2 gNe (f2 gIx (fVar 14) (fC (.int 1))) (f2 gAdd (f2 gMulA (f2 gSub (fC (.int 1)) (fVar 5)) (fVar 4)) (fVar 11))))) (fRet (fC (.bool false))) fNext) (fSeq (fIf (fNotT (fTru (fCall 2 (call 11) (fAc (fCall 2 (call 4) (fAc (f2 gIx (fVar 14) (fC (.int 0))) (fAc (f2 gIx (fVar 14) (fC (.int 2))) fA0))) (fAc (fVar 11) fA0))))) (fRet (fC (.bool false))) fNext) (fSeq (fAsg (fCall 4 (call 7) (fAc (f2 gIx (fVar 14) (fC (.int 0))) (fAc (fVar 4) (fAc (f2 gSub (fC (.int 1)) (fVar 5)) (fAc (f2 gIx (fVar 14) (fC (.int 2))) fA0))))) (gtName 15)) (fSeq (fIf (fOrT (fTest (f2 gNe (f2 gIx (fVar 15) (fC (.int 1))) (f2 gAdd (f2 gMulA (fVar 5) (fVar 4)) (fVar 11)))) (fTest (f2 gNe (fCall 2 (call 19) (fAc (f2 gIx (fVar 15) (fC (.int 0))) (fAc (f2 gIx (fVar 15) (fC (.int 2))) fA0))) (fCall 2 (call 19) (fAc (fVar 3) (fAc (fVar 7) fA0)))))) (fRet (fC (.bool false))) fNext) (fIf (fTest (f2 gNe (fL gRepr (fAc (fL gLst (fAc (fVar 3) (fAc (fVar 7) fA0))) fA0)) (fVar 9))) (fRet (fC (.bool false))) fNext))))))))))))))) (fRet (fC (.bool true))))))
noncomputable def ini22 (call : Calls) : List (Str × FE) := [("words", (fVar 1)), ("start", (fVar 2)), ("target", (fVar 3)), ("moved", (fL gLive fA0)), ("found", fDnew)]
noncomputable def stepN (n : Nat) (c c0 : Calls) : Calls := fun id ws S => match id with
    | 0 => runB 2 (b0 c) ws S
    | 1 => runB 2 (b1 c) ws S
    | 2 => runB 5 (b2 c) ws S
    | 3 => runB 5 (b3 c) ws S
    | 4 => runB 3 (b4 c) ws S
    | 5 => runB 4 (b5 c) ws S
    | 6 => runB 7 (b6 c) ws S
    | 7 => if 2 ≤ n then runB 9 (b7 c) ws S else .bad
    | 8 => runB 2 (b8 c) ws S
    | 9 => runB 7 (b9 c) ws S
    | 10 => runB 2 (b10 c) ws S
    | 11 => runB 2 (b11 c) ws S
    | 12 => runB 3 (b12 c) ws S
    | 13 => runB 4 (b13 c) ws S
    | 14 => runB 6 (b14 c) ws S
    | 15 => runB 17 (b15 c) ws S
    | 16 => runB 6 (b16 c) ws S
    | 17 => runB 4 (b17 c) ws S
    | 18 => runB 14 (b18 c) ws S
    | 19 => runB 9 (b19 c) ws S
    | 20 => runB 5 (b20 c) ws S
    | 21 => runB 16 (b21 c) ws S
    | 22 => if 1 ≤ n then mkOb "Moving" 4 (fun ws S => noX (goI (startI 4 ws) (ini22 c0) [] S)) ws S else .bad
    | _ => .bad
noncomputable def callP : Nat → Calls × Calls
  | 0 => (fun _ _ _ => .bad, fun _ _ _ => .bad)
  | n + 1 => (stepN n (callP n).1 (callP n).2, (callP n).1)
noncomputable def callN (n : Nat) : Calls := (callP n).1
/-- the defs as they are called -/
structure Tab (P : Program) (w : World) (K : PySem.W.Frag) (mg : Str → Option Value) (base : Heap) (ct : Nat → Option Addr) (n : Nat) (call : Calls) : Prop where
  o0 : Callee P w K mg base ct n "read_header" P0 (call 0)
  o1 : Callee P w K mg base ct n "size_at" P1 (call 1)
  o2 : Callee P w K mg base ct n "object_at" P2 (call 2)
  o3 : Callee P w K mg base ct n "reached" P3 (call 3)
  o4 : Callee P w K mg base ct n "reached_words" P4 (call 4)
  o7 : Callee P w K mg base ct n "collected" P7 (call 7)
  o8 : Callee P w K mg base ct n "_law_bag" P8 (call 8)
  o9 : Callee P w K mg base ct n "_law_take" P9 (call 9)
  o10 : Callee P w K mg base ct n "_law_some" P10 (call 10)
  o11 : Callee P w K mg base ct n "_law_alike" P11 (call 11)
  o12 : Callee P w K mg base ct n "_law_header" P12 (call 12)
  o13 : Callee P w K mg base ct n "_law_read" P13 (call 13)
  o14 : Callee P w K mg base ct n "_law_reached" P14 (call 14)
  o15 : Callee P w K mg base ct n "_law_collected" P15 (call 15)
  o16 : Callee P w K mg base ct n "_law_placed" P16 (call 16)
  o17 : Callee P w K mg base ct n "_law_sort_for" P17 (call 17)
  o18 : Callee P w K mg base ct n "_law_heap_drawn" P18 (call 18)
  o19 : Callee P w K mg base ct n "_law_shape" P19 (call 19)
  o20 : Callee P w K mg base ct n "_law_is_chain_right" P20 (call 20)
  o21 : Callee P w K mg base ct n "law" P21 (call 21)
  o5 : CalleeM CX0 P w K mg base ct n "Moving" "moved_word" P5 (call 5)
  o6 : CalleeM CX0 P w K mg base ct n "Moving" "move" P6 (call 6)
  o22 : CalleeK P w K mg base ct (n - 1) "Moving" 4 (call 22)
  k_Moving : KCls K "Moving"
  n_Moving_found : KFld K "Moving" "found"
  n_Moving_moved : KFld K "Moving" "moved"
  n_Moving_start : KFld K "Moving" "start"
  n_Moving_target : KFld K "Moving" "target"
  n_Moving_words : KFld K "Moving" "words"
  b_abs : mg "abs" = none
  b_int : mg "int" = none
  b_len : mg "len" = none
  b_list : mg "list" = none
  b_range : mg "range" = none
  b_repr : mg "repr" = none
  b_sorted : mg "sorted" = none
  b_sum : mg "sum" = none
  b_tuple : mg "tuple" = none
  b_zip : mg "zip" = none
/-! each keeps to it -/
section
variable {P : Program} {w : World} {K : PySem.W.Frag} {mg : Str → Option Value} {base : Heap} {ct : Nat → Option Addr} {n : Nat} {call : Calls} {f : Addr} {cdv : Value} {A : Around} {outer : List Env} {s : Shared} {H : Hp} {E : XK}
theorem d0 (T : Tab P w K mg base ct n call) (hr : Room n (A.deeper (envOfC "read_header" (defScope st0) s.heap.objs.size f cdv))) (gd : A.guards = some []) (hS : FnScope N0 P0 (defScope st0) := sc0) :
    PSs (bodyX P w K mg base N0 "read_header" (defScope st0) f cdv A outer s H E) (defBody st0) (tS ⟨K, ct⟩ NX (b0 call)) := by
  unfold b0
  exact (s_cons (s_set 1 hS.nd (i_op sim_div (iv 0) ii)) (s_one (s_ret (i_tup (ac (i_op sim_mod (iv 1) ii) (ac (i_op sim_div (i_op sim_div (iv 1) ii) ii) (ac (i_op sim_mod (i_op sim_div (iv 1) ii) ii) a0)))))))
theorem d1 (T : Tab P w K mg base ct n call) (hr : Room n (A.deeper (envOfC "size_at" (defScope st1) s.heap.objs.size f cdv))) (gd : A.guards = some []) (hS : FnScope N1 P1 (defScope st1) := sc1) :
    PSs (bodyX P w K mg base N1 "size_at" (defScope st1) f cdv A outer s H E) (defBody st1) (tS ⟨K, ct⟩ NX (b1 call)) := by
  unfold b1
  exact (s_one (s_ret (i_op sim_add (i_ix (cCall (T.o0) hr gd (ac (i_ix (iv 0) (iv 1)) a0)) ii) ii)))
theorem d2 (T : Tab P w K mg base ct n call) (hr : Room n (A.deeper (envOfC "object_at" (defScope st2) s.heap.objs.size f cdv))) (gd : A.guards = some []) (hS : FnScope N2 P2 (defScope st2) := sc2) :
    PSs (bodyX P w K mg base N2 "object_at" (defScope st2) f cdv A outer s H E) (defBody st2) (tS ⟨K, ct⟩ NX (b2 call)) := by
  unfold b2
  exact (s_cons (s_asg (cCall (T.o0) hr gd (ac (i_ix (iv 0) (iv 1)) a0)) (g_tup rfl (gs_cons (g_name 2 hS.nd ) (gs_cons (g_name 3 hS.nd ) (gs_cons (g_name 4 hS.nd ) gs_nil))))) (s_one (s_ret (i_tup (ac (iv 2) (ac (iv 3) (ac (i_callT c_tupleA (by rfl) T.b_tuple (by decide +kernel) (ac (i_slA (iv 0) (o_some (i_op sim_add (iv 1) ii)) (o_some (i_op sim_add (i_op sim_add (iv 1) ii) (iv 4)))) a0)) a0)))))))
theorem d3 (T : Tab P w K mg base ct n call) (hr : Room n (A.deeper (envOfC "reached" (defScope st3) s.heap.objs.size f cdv))) (gd : A.guards = some []) (hS : FnScope N3 P3 (defScope st3) := sc3) :
    PSs (bodyX P w K mg base N3 "reached" (defScope st3) f cdv A outer s H E) (defBody st3) (tS ⟨K, ct⟩ NX (b3 call)) := by
  unfold b3
  exact (s_cons (s_set 2 hS.nd i_dnewL) (s_cons (s_set 3 hS.nd (i_callT c_listL (by rfl) T.b_list (by decide +kernel) (ac (iv 1) a0))) (s_cons (s_while 1000000 PassesOwn.never (t_cmp sim_gt (i_callB c_len (by rfl) T.b_len (by decide +kernel) (ac (iv 3) a0)) ii (by rfl)) (s_cons (s_set 4 hS.nd (i_meth0 PySem.F.slot_list_pop PySem.F.type_list_pop m_pop (iv 3))) (s_one (s_if ((w_and (t_cmp (sim_eq (hu64 hr)) (i_op sim_mod (iv 4) ii) ii (by rfl)) (w_and1 (t_cmp (sim_notInDA (hu1 hr)) (i_op sim_div (iv 4) ii) (iv 2) (by rfl))))).pt (s_cons (s_dput (hu1 hr) ib (iv 2) (i_op sim_div (iv 4) ii)) (s_one (s_expr (i_meth PySem.F.slot_list_extend PySem.F.type_list_extend m_extendA (iv 3) (ac (i_ix (cCall (T.o2) hr gd (ac (iv 0) (ac (i_op sim_div (iv 4) ii) a0))) ii) a0))))) s_nil)))) (s_one (s_ret (i_callT c_tupleA (by rfl) T.b_tuple (by decide +kernel) (ac (i_callB (c_sortX rfl (hu64 hr)) (by rfl) T.b_sorted (by decide +kernel) (ac (iv 2) a0)) a0)))))))
theorem d4 (T : Tab P w K mg base ct n call) (hr : Room n (A.deeper (envOfC "reached_words" (defScope st4) s.heap.objs.size f cdv))) (gd : A.guards = some []) (hS : FnScope N4 P4 (defScope st4) := sc4) :
    PSs (bodyX P w K mg base N4 "reached_words" (defScope st4) f cdv A outer s H E) (defBody st4) (tS ⟨K, ct⟩ NX (b4 call)) := by
  unfold b4
  exact (s_one (s_ret (i_callB (c_sum rfl) (by rfl) T.b_sum (by decide +kernel) (ac (i_lc (own := [("address", 2)]) rfl hS.nd (w_seq (cCall (T.o3) hr gd (ac (iv 0) (ac (iv 1) a0)))) (blk_of (by kernel_rfl)) (fun _ _ _ _ _ => (gb_name 2 hS.nd rfl (by decide))) (fun _ _ _ _ _ => ts_nil) (fun _ _ _ _ _ => (cCall (T.o1) hr gd (ac (iv 0) (ac (iv 2) a0))))) a0))))
theorem d5 (T : Tab P w K mg base ct n call) (hr : Room n (A.deeper (envOfC "Moving.moved_word" (defScope st5) s.heap.objs.size f cdv))) (gd : A.guards = some []) (hS : FnScope N5 P5 (defScope st5) := sc5) :
    PSs (bodyX P w K mg base N5 "Moving.moved_word" (defScope st5) f cdv A outer s H E) (defBody st5) (tS ⟨K, ct⟩ NX (b5 call)) := by
  unfold b5
  exact (s_cons (s_if (t_cmp (sim_eq (hu64 hr)) (i_op sim_mod (iv 1) ii) ii (by rfl)) (s_one (s_ret (iv 1))) s_nil) (s_cons (s_set 2 hS.nd (i_op sim_div (iv 1) ii)) (s_cons (s_if (t_cmp (sim_notInDA (hu1 hr)) (iv 2) (i_fld T.k_Moving T.n_Moving_found (iv 0)) (by rfl)) (s_cons (s_dput (hu1 hr) (i_op sim_add (i_fld T.k_Moving T.n_Moving_target (iv 0)) (i_callB c_len (by rfl) T.b_len (by decide +kernel) (ac (i_fld T.k_Moving T.n_Moving_moved (iv 0)) a0))) (i_fld T.k_Moving T.n_Moving_found (iv 0)) (iv 2)) (s_cons (s_set 3 hS.nd (i_op sim_sub (iv 2) (i_fld T.k_Moving T.n_Moving_start (iv 0)))) (s_one (s_expr (i_meth PySem.F.slot_list_extend PySem.F.type_list_extend m_extendA (i_fld T.k_Moving T.n_Moving_moved (iv 0)) (ac (i_callT c_list (by rfl) T.b_list (by decide +kernel) (ac (i_slA (i_fld T.k_Moving T.n_Moving_words (iv 0)) (o_some (iv 3)) (o_some (i_op sim_add (iv 3) (cCall (T.o1) hr gd (ac (i_fld T.k_Moving T.n_Moving_words (iv 0)) (ac (iv 3) a0)))))) a0)) a0)))))) s_nil) (s_one (s_ret (i_op sim_mulA ii (i_ixA (hu1 hr) (i_fld T.k_Moving T.n_Moving_found (iv 0)) (iv 2))))))))
theorem d6 (T : Tab P w K mg base ct n call) (hr : Room n (A.deeper (envOfC "Moving.move" (defScope st6) s.heap.objs.size f cdv))) (gd : A.guards = some []) (hS : FnScope N6 P6 (defScope st6) := sc6) :
    PSs (bodyX P w K mg base N6 "Moving.move" (defScope st6) f cdv A outer s H E) (defBody st6) (tS ⟨K, ct⟩ NX (b6 call)) := by
  unfold b6
  exact (s_cons (s_setLc 2 (own := [("word", 3)]) rfl hS.nd (sw_true rfl rfl rfl rfl) (w_seq (iv 1)) (blk_of (by kernel_rfl)) (fun _ _ _ _ _ => (gb_name 3 hS.nd rfl (by decide))) (fun _ _ _ _ _ => ts_nil) (fun _ _ _ _ _ => (cMethC (CX := CX0) T.o5 T.k_Moving (fun _ => pass0E) hr gd (iv 0) (ac (iv 3) a0)))) (s_cons (s_set 4 hS.nd ii) (s_cons (s_while 1000000 PassesOwn.never (t_cmp sim_lt (iv 4) (i_callB c_len (by rfl) T.b_len (by decide +kernel) (ac (i_fld T.k_Moving T.n_Moving_moved (iv 0)) a0)) (by rfl)) (s_cons (s_set 5 hS.nd (i_op sim_add (i_op sim_add (iv 4) ii) (i_ix (cCall (T.o0) hr gd (ac (i_ix (i_fld T.k_Moving T.n_Moving_moved (iv 0)) (iv 4)) a0)) ii))) (s_cons (s_for PassesOwn.never rfl (w_range2 (by rfl) T.b_range (ac (i_op sim_add (iv 4) ii) (ac (iv 5) a0))) (g_name 6 hS.nd ) (s_one (s_store (cMethC (CX := CX0) T.o5 T.k_Moving (fun _ => pass0E) hr gd (iv 0) (ac (i_ix (i_fld T.k_Moving T.n_Moving_moved (iv 0)) (iv 6)) a0)) (i_fld T.k_Moving T.n_Moving_moved (iv 0)) (iv 6)))) (s_one (s_set 4 hS.nd (iv 5)))))) (s_one (s_ret (iv 2))))))
theorem d7 (T : Tab P w K mg base ct n call) (h2 : 2 ≤ n) (hr : Room n (A.deeper (envOfC "collected" (defScope st7) s.heap.objs.size f cdv))) (gd : A.guards = some []) (hS : FnScope N7 P7 (defScope st7) := sc7) :
    PSs (bodyX P w K mg base N7 "collected" (defScope st7) f cdv A outer s H E) (defBody st7) (tS ⟨K, ct⟩ NX (b7 call)) := by
  unfold b7
  exact (s_cons (s_set 4 hS.nd (i_op sim_mulA (i_op sim_sub ii (iv 2)) (iv 1))) (s_cons (s_set 5 hS.nd (cNew T.o22 (room_pred h2 hr) gd (ac (iv 0) (ac ii (ac (iv 4) a0))))) (s_cons (s_set 6 hS.nd (i_callT c_tupleA (by rfl) T.b_tuple (by decide +kernel) (ac (cMethC (CX := CX0) T.o6 T.k_Moving (fun _ => pass0E) hr gd (iv 5) (ac (iv 3) a0)) a0))) (s_cons (s_set 7 hS.nd (i_op sim_add (i_callT c_tupleA (by rfl) T.b_tuple (by decide +kernel) (ac (i_fld T.k_Moving T.n_Moving_moved (iv 5)) a0)) (i_op sim_mulC (i_tup (ac ii a0)) (i_op sim_sub (iv 1) (i_callB c_len (by rfl) T.b_len (by decide +kernel) (ac (i_fld T.k_Moving T.n_Moving_moved (iv 5)) a0)))))) (s_cons (s_set 8 hS.nd (i_op sim_mulC (i_tup (ac ii a0)) (iv 1))) (s_one (s_ret (i_tup (ac (i_ife (t_cmp (sim_eq (hu64 hr)) (iv 2) ii (by rfl)) (i_op sim_add (iv 7) (iv 8)) (i_op sim_add (iv 8) (iv 7))) (ac (i_op sim_add (iv 4) (i_callB c_len (by rfl) T.b_len (by decide +kernel) (ac (i_fld T.k_Moving T.n_Moving_moved (iv 5)) a0))) (ac (iv 6) a0)))))))))))
theorem d8 (T : Tab P w K mg base ct n call) (hr : Room n (A.deeper (envOfC "_law_bag" (defScope st8) s.heap.objs.size f cdv))) (gd : A.guards = some []) (hS : FnScope N8 P8 (defScope st8) := sc8) :
    PSs (bodyX P w K mg base N8 "_law_bag" (defScope st8) f cdv A outer s H E) (defBody st8) (tS ⟨K, ct⟩ NX (b8 call)) := by
  unfold b8
  exact (s_one (s_ret (i_live (ac ii (ac ii (ac ii (ac (i_lc (own := [("cell", 1)]) rfl hS.nd (w_seq (i_slA (iv 0) o_none (o_some ii))) (blk_of (by kernel_rfl)) (fun _ _ _ _ _ => (gb_name 1 hS.nd rfl (by decide))) (fun _ _ _ _ _ => ts_nil) (fun _ _ _ _ _ => (i_callB c_abs (by rfl) T.b_abs (by decide +kernel) (ac (iv 1) a0)))) a0)))))))
theorem d9 (T : Tab P w K mg base ct n call) (hr : Room n (A.deeper (envOfC "_law_take" (defScope st9) s.heap.objs.size f cdv))) (gd : A.guards = some []) (hS : FnScope N9 P9 (defScope st9) := sc9) :
    PSs (bodyX P w K mg base N9 "_law_take" (defScope st9) f cdv A outer s H E) (defBody st9) (tS ⟨K, ct⟩ NX (b9 call)) := by
  unfold b9
  exact (s_cons (s_if (t_cmp (sim_eq (hu64 hr)) (i_ix (iv 0) ii) ii (by rfl)) (s_cons (s_set 2 hS.nd (i_ix (i_op sim_add (i_slA (i_ix (iv 0) ii) (o_some (i_ix (iv 0) ii)) o_none) (i_lst (ac ii a0))) ii)) (s_cons (s_augAt sim_iaddI (iv 0) ii ii) (s_cons (s_if (t_cmp sim_ge (iv 2) (i_op sim_pow ii ii) (by rfl)) (s_one (s_store (iv 2) (iv 0) ii)) s_nil) (s_cons (s_set 3 hS.nd (i_op sim_add (i_op sim_add (i_op sim_mulA (i_ix (iv 0) ii) ii) (i_op sim_mod (i_callT c_intA (by rfl) T.b_int (by decide +kernel) (ac (iv 2) a0)) ii)) (i_op sim_mulA ii (i_ix (iv 0) ii)))) (s_one (s_store (i_op sim_mod (i_callT c_intA (by rfl) T.b_int (by decide +kernel) (ac (iv 3) a0)) ii) (iv 0) ii)))))) s_nil) (s_cons (s_if (t_cmp sim_gt (i_ix (iv 0) ii) ii (by rfl)) (s_cons (s_set 4 hS.nd (i_op sim_mod (i_callT c_intA (by rfl) T.b_int (by decide +kernel) (ac (i_ix (iv 0) ii) a0)) (iv 1))) (s_cons (s_store (i_op sim_div (i_callT c_intA (by rfl) T.b_int (by decide +kernel) (ac (i_ix (iv 0) ii) a0)) (iv 1)) (iv 0) ii) (s_one (s_ret (iv 4))))) s_nil) (s_cons (s_set 5 hS.nd (i_op sim_mod (i_callT c_intA (by rfl) T.b_int (by decide +kernel) (ac (i_op sim_mulA (i_op sim_add (i_ix (iv 0) ii) ii) ii) a0)) ii)) (s_cons (s_set 6 hS.nd (i_op sim_mod (i_callT c_intA (by rfl) T.b_int (by decide +kernel) (ac (i_op sim_mulA (i_op sim_mod (i_callT c_intA (by rfl) T.b_int (by decide +kernel) (ac (i_op sim_mulA (iv 5) (iv 5)) a0)) ii) ii) a0)) ii)) (s_one (s_ret (i_op sim_mod (i_callT c_intA (by rfl) T.b_int (by decide +kernel) (ac (i_op sim_div (iv 6) ii) a0)) (iv 1))))))))
theorem d10 (T : Tab P w K mg base ct n call) (hr : Room n (A.deeper (envOfC "_law_some" (defScope st10) s.heap.objs.size f cdv))) (gd : A.guards = some []) (hS : FnScope N10 P10 (defScope st10) := sc10) :
    PSs (bodyX P w K mg base N10 "_law_some" (defScope st10) f cdv A outer s H E) (defBody st10) (tS ⟨K, ct⟩ NX (b10 call)) := by
  unfold b10
  exact (s_one (s_ret (i_ix (iv 1) (cCall (T.o9) hr gd (ac (iv 0) (ac (i_callB c_len (by rfl) T.b_len (by decide +kernel) (ac (iv 1) a0)) a0))))))
theorem d11 (T : Tab P w K mg base ct n call) (hr : Room n (A.deeper (envOfC "_law_alike" (defScope st11) s.heap.objs.size f cdv))) (gd : A.guards = some []) (hS : FnScope N11 P11 (defScope st11) := sc11) :
    PSs (bodyX P w K mg base N11 "_law_alike" (defScope st11) f cdv A outer s H E) (defBody st11) (tS ⟨K, ct⟩ NX (b11 call)) := by
  unfold b11
  exact (s_one (s_ret (i_and (i_cmp (sim_eq (hu64 hr)) (iv 0) (iv 1) (by rfl)) (i_one (i_cmp (sim_eq (hu64 hr)) (i_callB (c_repr gd (hu65 hr)) (by rfl) T.b_repr (by decide +kernel) (ac (iv 0) a0)) (i_callB (c_repr gd (hu65 hr)) (by rfl) T.b_repr (by decide +kernel) (ac (iv 1) a0)) (by rfl))))))
theorem d12 (T : Tab P w K mg base ct n call) (hr : Room n (A.deeper (envOfC "_law_header" (defScope st12) s.heap.objs.size f cdv))) (gd : A.guards = some []) (hS : FnScope N12 P12 (defScope st12) := sc12) :
    PSs (bodyX P w K mg base N12 "_law_header" (defScope st12) f cdv A outer s H E) (defBody st12) (tS ⟨K, ct⟩ NX (b12 call)) := by
  unfold b12
  exact (s_one (s_ret (i_op sim_add (i_op sim_mulA ii (i_op sim_add (i_op sim_mulA ii (i_op sim_add (i_op sim_mulA ii (iv 1)) (iv 2))) (iv 0))) ii)))
theorem d13 (T : Tab P w K mg base ct n call) (hr : Room n (A.deeper (envOfC "_law_read" (defScope st13) s.heap.objs.size f cdv))) (gd : A.guards = some []) (hS : FnScope N13 P13 (defScope st13) := sc13) :
    PSs (bodyX P w K mg base N13 "_law_read" (defScope st13) f cdv A outer s H E) (defBody st13) (tS ⟨K, ct⟩ NX (b13 call)) := by
  unfold b13
  exact (s_cons (s_set 2 hS.nd (i_op sim_div (i_op sim_sub (i_ix (iv 0) (iv 1)) ii) ii)) (s_cons (s_set 3 hS.nd (i_op sim_mod (i_callT c_intA (by rfl) T.b_int (by decide +kernel) (ac (i_op sim_div (i_callT c_intA (by rfl) T.b_int (by decide +kernel) (ac (iv 2) a0)) ii) a0)) ii)) (s_one (s_ret (i_tup (ac (i_op sim_mod (i_callT c_intA (by rfl) T.b_int (by decide +kernel) (ac (iv 2) a0)) ii) (ac (i_op sim_div (i_callT c_intA (by rfl) T.b_int (by decide +kernel) (ac (iv 2) a0)) ii) (ac (i_callT c_tupleA (by rfl) T.b_tuple (by decide +kernel) (ac (i_slA (iv 0) (o_some (i_op sim_add (iv 1) ii)) (o_some (i_op sim_add (i_op sim_add (iv 1) ii) (iv 3)))) a0)) a0))))))))
theorem d14 (T : Tab P w K mg base ct n call) (hr : Room n (A.deeper (envOfC "_law_reached" (defScope st14) s.heap.objs.size f cdv))) (gd : A.guards = some []) (hS : FnScope N14 P14 (defScope st14) := sc14) :
    PSs (bodyX P w K mg base N14 "_law_reached" (defScope st14) f cdv A outer s H E) (defBody st14) (tS ⟨K, ct⟩ NX (b14 call)) := by
  unfold b14
  exact (s_cons (s_par 2 3 rfl hS.nd (by decide) (ac (i_live a0) (ac (i_lcL (own := [("word", 4)]) rfl hS.nd (w_seq (iv 1)) (blk_of (by kernel_rfl)) (fun _ _ _ _ _ => (gb_name 4 hS.nd rfl (by decide))) (fun _ _ _ _ _ => (ts_one (t_cmp (sim_eq (hu64 hr)) (i_op sim_mod (i_callT c_intA (by rfl) T.b_int (by decide +kernel) (ac (iv 4) a0)) ii) ii (by rfl)))) (fun _ _ _ _ _ => (iv 4))) a0))) (s_cons (s_while 1000000 PassesOwn.never (t_cmp (sim_ne (hu64 hr)) (iv 3) (i_lst a0) (by rfl)) (s_cons (s_set 5 hS.nd (i_op sim_div (i_callT c_intA (by rfl) T.b_int (by decide +kernel) (ac (i_meth0 PySem.F.slot_list_pop PySem.F.type_list_pop m_pop (iv 3)) a0)) ii)) (s_one (s_if (t_cmp sim_notIn (iv 5) (iv 2) (by rfl)) (s_cons (s_expr (i_meth PySem.F.slot_list_append PySem.F.type_list_append m_append (iv 2) (ac (iv 5) a0))) (s_one (s_expr (i_meth PySem.F.slot_list_extend PySem.F.type_list_extend m_extendA (iv 3) (ac (i_lc (own := [("word", 4)]) rfl hS.nd (w_seq (i_ix (cCall (T.o13) hr gd (ac (iv 0) (ac (iv 5) a0))) ii)) (blk_of (by kernel_rfl)) (fun _ _ _ _ _ => (gb_name 4 hS.nd rfl (by decide))) (fun _ _ _ _ _ => (ts_one (t_cmp (sim_eq (hu64 hr)) (i_op sim_mod (i_callT c_intA (by rfl) T.b_int (by decide +kernel) (ac (iv 4) a0)) ii) ii (by rfl)))) (fun _ _ _ _ _ => (iv 4))) a0))))) s_nil)))) (s_one (s_ret (i_callB (c_sortX rfl (hu64 hr)) (by rfl) T.b_sorted (by decide +kernel) (ac (iv 2) a0))))))
theorem d15 (T : Tab P w K mg base ct n call) (hr : Room n (A.deeper (envOfC "_law_collected" (defScope st15) s.heap.objs.size f cdv))) (gd : A.guards = some []) (hS : FnScope N15 P15 (defScope st15) := sc15) :
    PSs (bodyX P w K mg base N15 "_law_collected" (defScope st15) f cdv A outer s H E) (defBody st15) (tS ⟨K, ct⟩ NX (b15 call)) := by
  unfold b15
  exact (s_cons (s_set 4 hS.nd (i_op sim_mulA (i_op sim_sub ii (iv 2)) (iv 1))) (s_cons (s_asg (i_tup (ac i_dnewL (ac (i_live a0) (ac (iv 4) a0)))) (g_tup rfl (gs_cons (g_name 5 hS.nd ) (gs_cons (g_name 6 hS.nd ) (gs_cons (g_name 7 hS.nd ) gs_nil))))) (s_cons (s_for PassesOwn.never rfl (w_seq (iv 3)) (g_name 8 hS.nd ) (s_one (s_set 7 hS.nd (cCall (T.o16) hr gd (ac (iv 0) (ac (iv 8) (ac (iv 5) (ac (iv 6) (ac (iv 7) a0))))))))) (s_cons (s_set 9 hS.nd ii) (s_cons (s_while 1000000 PassesOwn.never (t_cmp sim_lt (iv 9) (i_callB c_len (by rfl) T.b_len (by decide +kernel) (ac (iv 6) a0)) (by rfl)) (s_cons (s_for PassesOwn.never rfl (w_seq (i_ix (cCall (T.o13) hr gd (ac (iv 0) (ac (i_ix (iv 6) (iv 9)) a0))) ii)) (g_name 8 hS.nd ) (s_one (s_set 7 hS.nd (cCall (T.o16) hr gd (ac (iv 0) (ac (iv 8) (ac (iv 5) (ac (iv 6) (ac (iv 7) a0))))))))) (s_one (s_aug 9 hS.nd sim_iaddI ii)))) (s_cons (s_set 10 hS.nd (i_op sim_mulL (i_lst (ac ii a0)) (i_op sim_mulA ii (iv 1)))) (s_cons (s_for PassesOwn.never rfl (w_seq (iv 6)) (g_name 11 hS.nd ) (s_cons (s_asg (cCall (T.o13) hr gd (ac (iv 0) (ac (iv 11) a0))) (g_tup rfl (gs_cons (g_name 12 hS.nd ) (gs_cons (g_name 13 hS.nd ) (gs_cons (g_name 14 hS.nd ) gs_nil))))) (s_cons (s_set 15 hS.nd (i_op sim_add (i_lst (ac (i_ix (iv 0) (iv 11)) a0)) (i_lc (own := [("one", 16)]) rfl hS.nd (w_seq (iv 14)) (blk_of (by kernel_rfl)) (fun _ _ _ _ _ => (gb_name 16 hS.nd rfl (by decide))) (fun _ _ _ _ _ => ts_nil) (fun _ _ _ _ _ => (i_ife (t_cmp (sim_eq (hu64 hr)) (i_op sim_mod (i_callT c_intA (by rfl) T.b_int (by decide +kernel) (ac (iv 16) a0)) ii) ii (by rfl)) (i_op sim_mulA ii (i_ixA (hu1 hr) (iv 5) (i_op sim_div (i_callT c_intA (by rfl) T.b_int (by decide +kernel) (ac (iv 16) a0)) ii))) (iv 16)))))) (s_one (s_storeSl (iv 15) (iv 10) (i_ixA (hu1 hr) (iv 5) (iv 11)) (i_op sim_add (i_ixA (hu1 hr) (iv 5) (iv 11)) (i_callB c_len (by rfl) T.b_len (by decide +kernel) (ac (iv 15) a0)))))))) (s_one (s_ret (i_tup (ac (iv 10) (ac (iv 7) (ac (i_lc (own := [("one", 16)]) rfl hS.nd (w_seq (iv 3)) (blk_of (by kernel_rfl)) (fun _ _ _ _ _ => (gb_name 16 hS.nd rfl (by decide))) (fun _ _ _ _ _ => ts_nil) (fun _ _ _ _ _ => (i_ife (t_cmp (sim_eq (hu64 hr)) (i_op sim_mod (i_callT c_intA (by rfl) T.b_int (by decide +kernel) (ac (iv 16) a0)) ii) ii (by rfl)) (i_op sim_mulA ii (i_ixA (hu1 hr) (iv 5) (i_op sim_div (i_callT c_intA (by rfl) T.b_int (by decide +kernel) (ac (iv 16) a0)) ii))) (iv 16)))) a0)))))))))))))
theorem d16 (T : Tab P w K mg base ct n call) (hr : Room n (A.deeper (envOfC "_law_placed" (defScope st16) s.heap.objs.size f cdv))) (gd : A.guards = some []) (hS : FnScope N16 P16 (defScope st16) := sc16) :
    PSs (bodyX P w K mg base N16 "_law_placed" (defScope st16) f cdv A outer s H E) (defBody st16) (tS ⟨K, ct⟩ NX (b16 call)) := by
  unfold b16
  exact (s_cons (s_set 5 hS.nd (i_op sim_div (i_callT c_intA (by rfl) T.b_int (by decide +kernel) (ac (iv 1) a0)) ii)) (s_cons (s_if ((w_or (t_cmp (sim_eq (hu64 hr)) (i_op sim_mod (i_callT c_intA (by rfl) T.b_int (by decide +kernel) (ac (iv 1) a0)) ii) ii (by rfl)) (w_or1 (t_cmp (sim_inDA (hu1 hr)) (iv 5) (iv 2) (by rfl))))).pt (s_one (s_ret (iv 4))) s_nil) (s_cons (s_dput (hu1 hr) (iv 4) (iv 2) (iv 5)) (s_cons (s_expr (i_meth PySem.F.slot_list_append PySem.F.type_list_append m_append (iv 3) (ac (iv 5) a0))) (s_one (s_ret (i_op sim_add (i_op sim_add (iv 4) ii) (i_callB c_len (by rfl) T.b_len (by decide +kernel) (ac (i_ix (cCall (T.o13) hr gd (ac (iv 0) (ac (iv 5) a0))) ii) a0)))))))))
theorem d17 (T : Tab P w K mg base ct n call) (hr : Room n (A.deeper (envOfC "_law_sort_for" (defScope st17) s.heap.objs.size f cdv))) (gd : A.guards = some []) (hS : FnScope N17 P17 (defScope st17) := sc17) :
    PSs (bodyX P w K mg base N17 "_law_sort_for" (defScope st17) f cdv A outer s H E) (defBody st17) (tS ⟨K, ct⟩ NX (b17 call)) := by
  unfold b17
  exact (s_cons (s_set 3 hS.nd (i_ife (t_cmp (sim_eq (hu64 hr)) (iv 1) ii (by rfl)) ii (cCall (T.o10) hr gd (ac (iv 0) (ac (i_ife (t_cmp (sim_eq (hu64 hr)) (iv 1) ii (by rfl)) (i_lst (ac ii (ac ii (ac ii (ac ii (ac ii a0)))))) (i_lst (ac ii (ac ii (ac ii a0))))) a0))))) (s_one (s_ret (i_tup (ac (iv 3) (ac (i_ife (t_cmp (sim_eq (hu64 hr)) (iv 3) ii (by rfl)) ii (cCall (T.o10) hr gd (ac (iv 0) (ac (iv 2) a0)))) a0))))))
theorem d18 (T : Tab P w K mg base ct n call) (hr : Room n (A.deeper (envOfC "_law_heap_drawn" (defScope st18) s.heap.objs.size f cdv))) (gd : A.guards = some []) (hS : FnScope N18 P18 (defScope st18) := sc18) :
    PSs (bodyX P w K mg base N18 "_law_heap_drawn" (defScope st18) f cdv A outer s H E) (defBody st18) (tS ⟨K, ct⟩ NX (b18 call)) := by
  unfold b18
  exact (s_cons (s_setLc 1 (own := [("turn", 2)]) rfl hS.nd (sw_true rfl rfl rfl rfl) (w_range1 (by rfl) T.b_range (ac (cCall (T.o10) hr gd (ac (iv 0) (ac (i_lst (ac ii (ac ii (ac ii (ac ii (ac ii a0)))))) a0))) a0)) (blk_of (by kernel_rfl)) (fun _ _ _ _ _ => (gb_name 2 hS.nd rfl (by decide))) (fun _ _ _ _ _ => ts_nil) (fun _ _ _ _ _ => (cCall (T.o9) hr gd (ac (iv 0) (ac ii a0))))) (s_cons (s_set 3 hS.nd (cCall (T.o9) hr gd (ac (iv 0) (ac ii a0)))) (s_cons (s_set 4 hS.nd (i_op sim_add (i_op sim_add (i_callB (c_sum rfl) (by rfl) T.b_sum (by decide +kernel) (ac (iv 1) a0)) (i_callB c_len (by rfl) T.b_len (by decide +kernel) (ac (iv 1) a0))) (cCall (T.o10) hr gd (ac (iv 0) (ac (i_lst (ac ii (ac ii (ac ii (ac ii a0))))) a0))))) (s_cons (s_par3 5 6 7 rfl hS.nd (by decide) (by decide) (by decide) (ac (i_op sim_mulL (i_lst (ac ii a0)) (i_op sim_mulA ii (iv 4))) (ac (i_live a0) (ac (i_op sim_mulA (iv 3) (iv 4)) a0)))) (s_cons (s_for PassesOwn.never rfl (w_seq (iv 1)) (g_name 8 hS.nd ) (s_cons (s_expr (i_meth PySem.F.slot_list_append PySem.F.type_list_append m_append (iv 6) (ac (iv 7) a0))) (s_one (s_aug 7 hS.nd sim_iaddI (i_op sim_add ii (iv 8)))))) (s_cons (s_for PassesOwn.never rfl (w_zip (by rfl) T.b_zip (ac (iv 6) (ac (iv 1) a0))) (g_tup rfl (gs_cons (g_name 9 hS.nd ) (gs_cons (g_name 8 hS.nd ) gs_nil))) (s_cons (s_asg (cCall (T.o17) hr gd (ac (iv 0) (ac (iv 8) (ac (i_lst (ac ii (ac ii (ac ii (ac ii a0))))) a0)))) (g_tup rfl (gs_cons (g_name 10 hS.nd ) (gs_cons (g_name 11 hS.nd ) gs_nil)))) (s_cons (s_set 12 hS.nd (i_live a0)) (s_cons (s_for PassesOwn.never rfl (w_range1 (by rfl) T.b_range (ac (iv 8) a0)) (g_name 13 hS.nd ) (s_one (s_expr (i_meth PySem.F.slot_list_append PySem.F.type_list_append m_append (iv 12) (ac (i_ife (t_cmp sim_gt (cCall (T.o9) hr gd (ac (iv 0) (ac ii a0))) ii (by rfl)) (i_op sim_mulA ii (cCall (T.o10) hr gd (ac (iv 0) (ac (iv 6) a0)))) (cCall (T.o10) hr gd (ac (iv 0) (ac (i_lst (ac ii (ac ii (ac ii (ac (i_neg ii) a0))))) a0)))) a0))))) (s_one (s_storeSl (i_op sim_add (i_lst (ac (cCall (T.o12) hr gd (ac (iv 10) (ac (iv 11) (ac (iv 8) a0)))) a0)) (iv 12)) (iv 5) (iv 9) (i_op sim_add (i_op sim_add (iv 9) ii) (iv 8)))))))) (s_one (s_ret (i_tup (ac (i_callT c_tupleA (by rfl) T.b_tuple (by decide +kernel) (ac (iv 5) a0)) (ac (iv 4) (ac (iv 3) (ac (iv 6) a0)))))))))))))
theorem d19 (T : Tab P w K mg base ct n call) (hr : Room n (A.deeper (envOfC "_law_shape" (defScope st19) s.heap.objs.size f cdv))) (gd : A.guards = some []) (hS : FnScope N19 P19 (defScope st19) := sc19) :
    PSs (bodyX P w K mg base N19 "_law_shape" (defScope st19) f cdv A outer s H E) (defBody st19) (tS ⟨K, ct⟩ NX (b19 call)) := by
  unfold b19
  exact (s_cons (s_par3 2 3 4 rfl hS.nd (by decide) (by decide) (by decide) (ac i_dnewL (ac (i_live a0) (ac (i_callT c_listL (by rfl) T.b_list (by decide +kernel) (ac (iv 1) a0)) a0)))) (s_cons (s_while 1000000 PassesOwn.never (t_cmp (sim_ne (hu64 hr)) (iv 4) (i_lst a0) (by rfl)) (s_cons (s_set 5 hS.nd (i_meth PySem.F.slot_list_pop PySem.F.type_list_pop m_popAt (iv 4) (ac ii a0))) (s_one (s_if (t_cmp (sim_eq (hu64 hr)) (i_op sim_mod (i_callT c_intA (by rfl) T.b_int (by decide +kernel) (ac (iv 5) a0)) ii) ii (by rfl)) (s_one (s_expr (i_meth PySem.F.slot_list_append PySem.F.type_list_append m_append (iv 3) (ac (iv 5) a0)))) (s_one (s_if (t_cmp (sim_inDA (hu1 hr)) (iv 5) (iv 2) (by rfl)) (s_one (s_expr (i_meth PySem.F.slot_list_append PySem.F.type_list_append m_append (iv 3) (ac (i_tup (ac is (ac (i_ixA (hu1 hr) (iv 2) (iv 5)) a0))) a0)))) (s_cons (s_dput (hu1 hr) (i_callB c_lenD (by rfl) T.b_len (by decide +kernel) (ac (iv 2) a0)) (iv 2) (iv 5)) (s_cons (s_asg (cCall (T.o13) hr gd (ac (iv 0) (ac (i_op sim_div (i_callT c_intA (by rfl) T.b_int (by decide +kernel) (ac (iv 5) a0)) ii) a0))) (g_tup rfl (gs_cons (g_name 6 hS.nd ) (gs_cons (g_name 7 hS.nd ) (gs_cons (g_name 8 hS.nd ) gs_nil))))) (s_cons (s_expr (i_meth PySem.F.slot_list_append PySem.F.type_list_append m_append (iv 3) (ac (i_tup (ac (iv 6) (ac (iv 7) (ac (i_callB c_len (by rfl) T.b_len (by decide +kernel) (ac (iv 8) a0)) a0)))) a0))) (s_one (s_expr (i_meth PySem.F.slot_list_extend PySem.F.type_list_extend m_extendA (iv 4) (ac (i_callT c_list (by rfl) T.b_list (by decide +kernel) (ac (iv 8) a0)) a0))))))))))))) (s_one (s_ret (iv 3)))))
theorem d20 (T : Tab P w K mg base ct n call) (hr : Room n (A.deeper (envOfC "_law_is_chain_right" (defScope st20) s.heap.objs.size f cdv))) (gd : A.guards = some []) (hS : FnScope N20 P20 (defScope st20) := sc20) :
    PSs (bodyX P w K mg base N20 "_law_is_chain_right" (defScope st20) f cdv A outer s H E) (defBody st20) (tS ⟨K, ct⟩ NX (b20 call)) := by
  unfold b20
  exact (s_cons (s_par3 1 2 3 rfl hS.nd (by decide) (by decide) (by decide) (ac (i_op sim_mulA ii (iv 0)) (ac (i_live a0) (ac (i_live a0) a0)))) (s_cons (s_for PassesOwn.never rfl (w_range1 (by rfl) T.b_range (ac (iv 0) a0)) (g_name 4 hS.nd ) (s_cons (s_expr (i_meth PySem.F.slot_list_extend PySem.F.type_list_extend m_extendA (iv 2) (ac (i_lst (ac (cCall (T.o12) hr gd (ac ii (ac (iv 4) (ac ii a0)))) (ac (i_ife (t_cmp sim_lt (i_op sim_add (iv 4) ii) (iv 0) (by rfl)) (i_op sim_mulA ii (i_op sim_add (iv 4) ii)) ii) a0))) a0))) (s_one (s_expr (i_meth PySem.F.slot_list_extend PySem.F.type_list_extend m_extendA (iv 3) (ac (i_lst (ac (cCall (T.o12) hr gd (ac ii (ac (iv 4) (ac ii a0)))) (ac (i_ife (t_cmp sim_lt (i_op sim_add (iv 4) ii) (iv 0) (by rfl)) (i_op sim_add (i_op sim_mulA ii (iv 1)) (i_op sim_mulA ii (i_op sim_add (iv 4) ii))) ii) a0))) a0)))))) (s_cons (s_par 2 3 rfl hS.nd (by decide) (ac (i_op sim_addLL (i_callT c_tupleA (by rfl) T.b_tuple (by decide +kernel) (ac (iv 2) a0)) (i_op sim_mulC (i_tup (ac ii a0)) (iv 1))) (ac (i_op sim_addLL (i_op sim_mulC (i_tup (ac ii a0)) (iv 1)) (i_callT c_tupleA (by rfl) T.b_tuple (by decide +kernel) (ac (iv 3) a0))) a0))) (s_cons (s_if (t_not (t_tru (cCall (T.o11) hr gd (ac (i_lst (ac (cCall (T.o3) hr gd (ac (iv 2) (ac (i_tup (ac ii a0)) a0))) (ac (cCall (T.o4) hr gd (ac (iv 2) (ac (i_tup (ac ii a0)) a0))) a0))) (ac (i_lst (ac (i_tupRng rfl (by rfl) T.b_tuple (by rfl) T.b_range (ac ii (ac (iv 1) (ac ii a0)))) (ac (iv 1) a0))) a0))))) (s_one (s_ret ib)) s_nil) (s_one (s_ret (cCall (T.o11) hr gd (ac (cCall (T.o7) hr gd (ac (iv 2) (ac (iv 1) (ac ii (ac (i_tup (ac ii a0)) a0))))) (ac (i_tup (ac (iv 3) (ac (i_op sim_mulA ii (iv 1)) (ac (i_tup (ac (i_op sim_mulA ii (iv 1)) a0)) a0)))) a0)))))))))
theorem d21 (T : Tab P w K mg base ct n call) (hr : Room n (A.deeper (envOfC "law" (defScope st21) s.heap.objs.size f cdv))) (gd : A.guards = some []) (hS : FnScope N21 P21 (defScope st21) := sc21) :
    PSs (bodyX P w K mg base N21 "law" (defScope st21) f cdv A outer s H E) (defBody st21) (tS ⟨K, ct⟩ NX (b21 call)) := by
  unfold b21
  exact (s_cons (s_set 1 hS.nd (cCallL (T.o8) hr gd (ac (iv 0) a0))) (s_cons (s_if ((w_and (t_cmp (sim_eq (hu64 hr)) (cCall (T.o9) hr gd (ac (iv 1) (ac ii a0))) ii (by rfl)) (w_and1 (t_not (t_tru (cCall (T.o20) hr gd (ac (cCall (T.o10) hr gd (ac (iv 1) (ac (i_lst (ac ii (ac ii a0))) a0))) a0))))))).pt (s_one (s_ret ib)) s_nil) (s_cons (s_for PassesOwn.never rfl (w_range1 (by rfl) T.b_range (ac ii a0)) (g_name 2 hS.nd ) (s_cons (s_asg (cCall (T.o18) hr gd (ac (iv 1) a0)) (g_tup rfl (gs_cons (g_name 3 hS.nd ) (gs_cons (g_name 4 hS.nd ) (gs_cons (g_name 5 hS.nd ) (gs_cons (g_name 6 hS.nd ) gs_nil)))))) (s_cons (s_set 7 hS.nd (i_tup a0)) (s_cons (s_for PassesOwn.never rfl (w_range1 (by rfl) T.b_range (ac (cCall (T.o9) hr gd (ac (iv 1) (ac ii a0))) a0)) (g_name 8 hS.nd ) (s_one (s_set 7 hS.nd (i_op sim_add (iv 7) (i_tup (ac (i_ife ((w_and (t_cmp (sim_ne (hu64 hr)) (iv 6) (i_lst a0) (by rfl)) (w_and1 (t_cmp sim_gt (cCall (T.o9) hr gd (ac (iv 1) (ac ii a0))) ii (by rfl))))).pt (i_op sim_mulA ii (cCall (T.o10) hr gd (ac (iv 1) (ac (iv 6) a0)))) ii) a0)))))) (s_cons (s_par 9 10 rfl hS.nd (by decide) (ac (i_callB (c_repr gd (hu65 hr)) (by rfl) T.b_repr (by decide +kernel) (ac (i_lst (ac (iv 3) (ac (iv 7) a0))) a0)) (ac (cCall (T.o14) hr gd (ac (iv 3) (ac (iv 7) a0))) a0))) (s_cons (s_set 11 hS.nd (i_callB (c_sum rfl) (by rfl) T.b_sum (by decide +kernel) (ac (i_lc (own := [("address", 12)]) rfl hS.nd (w_seq (iv 10)) (blk_of (by kernel_rfl)) (fun _ _ _ _ _ => (gb_name 12 hS.nd rfl (by decide))) (fun _ _ _ _ _ => ts_nil) (fun _ _ _ _ _ => (i_op sim_add ii (i_callB c_len (by rfl) T.b_len (by decide +kernel) (ac (i_ix (cCall (T.o13) hr gd (ac (iv 3) (ac (iv 12) a0))) ii) a0))))) a0))) (s_cons (s_if (t_not (t_tru (cCall (T.o11) hr gd (ac (i_lst (ac (cCall (T.o3) hr gd (ac (iv 3) (ac (iv 7) a0))) (ac (cCall (T.o4) hr gd (ac (iv 3) (ac (iv 7) a0))) a0))) (ac (i_lst (ac (i_callT c_tupleA (by rfl) T.b_tuple (by decide +kernel) (ac (iv 10) a0)) (ac (iv 11) a0))) a0))))) (s_one (s_ret ib)) s_nil) (s_cons (s_set 13 hS.nd (cCall (T.o15) hr gd (ac (iv 3) (ac (iv 4) (ac (iv 5) (ac (i_callT c_list (by rfl) T.b_list (by decide +kernel) (ac (iv 7) a0)) a0)))))) (s_cons (s_set 14 hS.nd (cCall (T.o7) hr gd (ac (iv 3) (ac (iv 4) (ac (iv 5) (ac (iv 7) a0)))))) (s_cons (s_if (t_not (t_tru (cCall (T.o11) hr gd (ac (iv 14) (ac (i_tup (ac (i_callT c_tupleA (by rfl) T.b_tuple (by decide +kernel) (ac (i_ix (iv 13) ii) a0)) (ac (i_ix (iv 13) ii) (ac (i_callT c_tupleA (by rfl) T.b_tuple (by decide +kernel) (ac (i_ix (iv 13) ii) a0)) a0)))) a0))))) (s_one (s_ret ib)) s_nil) (s_cons (s_if ((w_or (t_cmp (sim_ne (hu64 hr)) (cCall (T.o19) hr gd (ac (i_ix (iv 14) ii) (ac (i_ix (iv 14) ii) a0))) (cCall (T.o19) hr gd (ac (iv 3) (ac (iv 7) a0))) (by rfl)) (w_or1 (t_cmp (sim_ne (hu64 hr)) (i_ix (iv 14) ii) (i_op sim_add (i_op sim_mulA (i_op sim_sub ii (iv 5)) (iv 4)) (iv 11)) (by rfl))))).pt (s_one (s_ret ib)) s_nil) (s_cons (s_if (t_not (t_tru (cCall (T.o11) hr gd (ac (cCall (T.o4) hr gd (ac (i_ix (iv 14) ii) (ac (i_ix (iv 14) ii) a0))) (ac (iv 11) a0))))) (s_one (s_ret ib)) s_nil) (s_cons (s_set 15 hS.nd (cCall (T.o7) hr gd (ac (i_ix (iv 14) ii) (ac (iv 4) (ac (i_op sim_sub ii (iv 5)) (ac (i_ix (iv 14) ii) a0)))))) (s_cons (s_if ((w_or (t_cmp (sim_ne (hu64 hr)) (i_ix (iv 15) ii) (i_op sim_add (i_op sim_mulA (iv 5) (iv 4)) (iv 11)) (by rfl)) (w_or1 (t_cmp (sim_ne (hu64 hr)) (cCall (T.o19) hr gd (ac (i_ix (iv 15) ii) (ac (i_ix (iv 15) ii) a0))) (cCall (T.o19) hr gd (ac (iv 3) (ac (iv 7) a0))) (by rfl))))).pt (s_one (s_ret ib)) s_nil) (s_one (s_if (t_cmp (sim_ne (hu64 hr)) (i_callB (c_repr gd (hu65 hr)) (by rfl) T.b_repr (by decide +kernel) (ac (i_lst (ac (iv 3) (ac (iv 7) a0))) a0)) (iv 9) (by rfl)) (s_one (s_ret ib)) s_nil)))))))))))))))) (s_one (s_ret ib)))))
theorem d22 (T : Tab P w K mg base ct n call) (hr : Room n (A.deeper (envOfC "Moving.__init__" (defScope st22) s.heap.objs.size f cdv))) (gd : A.guards = some []) (hS : FnScope N22 P22 (defScope st22) := sc22) :
    PSs (bodyX P w K mg base N22 "Moving.__init__" (defScope st22) f cdv A outer s H E) (defBody st22) (tInit ⟨K, ct⟩ "Moving" E0 (ini22 call)) := by
  unfold ini22
  exact (init_cons T.k_Moving T.n_Moving_words (iv 1) (init_cons T.k_Moving T.n_Moving_start (iv 2) (init_cons T.k_Moving T.n_Moving_target (iv 3) (init_cons T.k_Moving T.n_Moving_moved (i_live a0) (init_cons T.k_Moving T.n_Moving_found i_dnewL init_nil)))))
end
/-! all of them -/
structure Facts (P : Program) (w : World) (K : PySem.W.Frag) (mg : Str → Option Value) (ct : Nat → Option Addr) : Prop where
  k_Moving : KCls K "Moving"
  n_Moving_found : KFld K "Moving" "found"
  n_Moving_moved : KFld K "Moving" "moved"
  n_Moving_start : KFld K "Moving" "start"
  n_Moving_target : KFld K "Moving" "target"
  n_Moving_words : KFld K "Moving" "words"
  a0 : DefAt K mg "read_header" st0
  a1 : DefAt K mg "size_at" st1
  a2 : DefAt K mg "object_at" st2
  a3 : DefAt K mg "reached" st3
  a4 : DefAt K mg "reached_words" st4
  a7 : DefAt K mg "collected" st7
  a8 : DefAt K mg "_law_bag" st8
  a9 : DefAt K mg "_law_take" st9
  a10 : DefAt K mg "_law_some" st10
  a11 : DefAt K mg "_law_alike" st11
  a12 : DefAt K mg "_law_header" st12
  a13 : DefAt K mg "_law_read" st13
  a14 : DefAt K mg "_law_reached" st14
  a15 : DefAt K mg "_law_collected" st15
  a16 : DefAt K mg "_law_placed" st16
  a17 : DefAt K mg "_law_sort_for" st17
  a18 : DefAt K mg "_law_heap_drawn" st18
  a19 : DefAt K mg "_law_shape" st19
  a20 : DefAt K mg "_law_is_chain_right" st20
  a21 : DefAt K mg "law" st21
  a5 : MethAt K "Moving" "moved_word" "Moving.moved_word" st5
  a6 : MethAt K "Moving" "move" "Moving.move" st6
  a22 : InitAt K mg "Moving" "Moving.__init__" st22
  b_abs : mg "abs" = none
  b_int : mg "int" = none
  b_len : mg "len" = none
  b_list : mg "list" = none
  b_range : mg "range" = none
  b_repr : mg "repr" = none
  b_sorted : mg "sorted" = none
  b_sum : mg "sum" = none
  b_tuple : mg "tuple" = none
  b_zip : mg "zip" = none
theorem bn0 : Bnd "read_header" st0 P0 := fun _ _ _ _ _ _ us hl => match us, hl with | [_], _ => rfl
theorem bn1 : Bnd "size_at" st1 P1 := fun _ _ _ _ _ _ us hl => match us, hl with | [_, _], _ => rfl
theorem bn2 : Bnd "object_at" st2 P2 := fun _ _ _ _ _ _ us hl => match us, hl with | [_, _], _ => rfl
theorem bn3 : Bnd "reached" st3 P3 := fun _ _ _ _ _ _ us hl => match us, hl with | [_, _], _ => rfl
theorem bn4 : Bnd "reached_words" st4 P4 := fun _ _ _ _ _ _ us hl => match us, hl with | [_, _], _ => rfl
theorem bn5 : BndM "moved_word" "Moving.moved_word" st5 P5 := fun _ _ _ _ _ _ us hl => match us, hl with | [_, _], _ => rfl
theorem bn6 : BndM "move" "Moving.move" st6 P6 := fun _ _ _ _ _ _ us hl => match us, hl with | [_, _], _ => rfl
theorem bn7 : Bnd "collected" st7 P7 := fun _ _ _ _ _ _ us hl => match us, hl with | [_, _, _, _], _ => rfl
theorem bn8 : Bnd "_law_bag" st8 P8 := fun _ _ _ _ _ _ us hl => match us, hl with | [_], _ => rfl
theorem bn9 : Bnd "_law_take" st9 P9 := fun _ _ _ _ _ _ us hl => match us, hl with | [_, _], _ => rfl
theorem bn10 : Bnd "_law_some" st10 P10 := fun _ _ _ _ _ _ us hl => match us, hl with | [_, _], _ => rfl
theorem bn11 : Bnd "_law_alike" st11 P11 := fun _ _ _ _ _ _ us hl => match us, hl with | [_, _], _ => rfl
theorem bn12 : Bnd "_law_header" st12 P12 := fun _ _ _ _ _ _ us hl => match us, hl with | [_, _, _], _ => rfl
theorem bn13 : Bnd "_law_read" st13 P13 := fun _ _ _ _ _ _ us hl => match us, hl with | [_, _], _ => rfl
theorem bn14 : Bnd "_law_reached" st14 P14 := fun _ _ _ _ _ _ us hl => match us, hl with | [_, _], _ => rfl
theorem bn15 : Bnd "_law_collected" st15 P15 := fun _ _ _ _ _ _ us hl => match us, hl with | [_, _, _, _], _ => rfl
theorem bn16 : Bnd "_law_placed" st16 P16 := fun _ _ _ _ _ _ us hl => match us, hl with | [_, _, _, _, _], _ => rfl
theorem bn17 : Bnd "_law_sort_for" st17 P17 := fun _ _ _ _ _ _ us hl => match us, hl with | [_, _, _], _ => rfl
theorem bn18 : Bnd "_law_heap_drawn" st18 P18 := fun _ _ _ _ _ _ us hl => match us, hl with | [_], _ => rfl
theorem bn19 : Bnd "_law_shape" st19 P19 := fun _ _ _ _ _ _ us hl => match us, hl with | [_, _], _ => rfl
theorem bn20 : Bnd "_law_is_chain_right" st20 P20 := fun _ _ _ _ _ _ us hl => match us, hl with | [_], _ => rfl
theorem bn21 : Bnd "law" st21 P21 := fun _ _ _ _ _ _ us hl => match us, hl with | [_], _ => rfl
theorem bn22 : BndM "__init__" "Moving.__init__" st22 P22 := fun _ _ _ _ _ _ us hl => match us, hl with | [_, _, _, _], _ => rfl
theorem tab_all {P : Program} {w : World} {K : PySem.W.Frag} {mg : Str → Option Value} {base : Heap} {ct : Nat → Option Addr} (F : Facts P w K mg ct) : ∀ n, Tab P w K mg base ct n (callN n)
  | 0 => ⟨callee_zero F.a0 bn0 fun _ _ => rfl, callee_zero F.a1 bn1 fun _ _ => rfl, callee_zero F.a2 bn2 fun _ _ => rfl, callee_zero F.a3 bn3 fun _ _ => rfl, callee_zero F.a4 bn4 fun _ _ => rfl, callee_zero F.a7 bn7 fun _ _ => rfl, callee_zero F.a8 bn8 fun _ _ => rfl, callee_zero F.a9 bn9 fun _ _ => rfl, callee_zero F.a10 bn10 fun _ _ => rfl, callee_zero F.a11 bn11 fun _ _ => rfl, callee_zero F.a12 bn12 fun _ _ => rfl, callee_zero F.a13 bn13 fun _ _ => rfl, callee_zero F.a14 bn14 fun _ _ => rfl, callee_zero F.a15 bn15 fun _ _ => rfl, callee_zero F.a16 bn16 fun _ _ => rfl, callee_zero F.a17 bn17 fun _ _ => rfl, callee_zero F.a18 bn18 fun _ _ => rfl, callee_zero F.a19 bn19 fun _ _ => rfl, callee_zero F.a20 bn20 fun _ _ => rfl, callee_zero F.a21 bn21 fun _ _ => rfl, calleeM_zero F.a5 bn5 fun _ _ => rfl, calleeM_zero F.a6 bn6 fun _ _ => rfl, calleeK_zero F.a22 bn22 fun _ _ => rfl, F.k_Moving, F.n_Moving_found, F.n_Moving_moved, F.n_Moving_start, F.n_Moving_target, F.n_Moving_words, F.b_abs, F.b_int, F.b_len, F.b_list, F.b_range, F.b_repr, F.b_sorted, F.b_sum, F.b_tuple, F.b_zip⟩
  | 1 =>
    have T : Tab P w K mg base ct 0 (callN 0) := tab_all F 0
    ⟨callee_succ F.a0 bn0 sc0 (fun _ _ => rfl) fun _ _ _ _ _ _ _ r gd => d0 T r gd, callee_succ F.a1 bn1 sc1 (fun _ _ => rfl) fun _ _ _ _ _ _ _ r gd => d1 T r gd, callee_succ F.a2 bn2 sc2 (fun _ _ => rfl) fun _ _ _ _ _ _ _ r gd => d2 T r gd, callee_succ F.a3 bn3 sc3 (fun _ _ => rfl) fun _ _ _ _ _ _ _ r gd => d3 T r gd, callee_succ F.a4 bn4 sc4 (fun _ _ => rfl) fun _ _ _ _ _ _ _ r gd => d4 T r gd, callee2_succ F.a7 bn7 sc7 (fun _ _ => rfl) fun h2 _ _ _ _ _ _ _ r gd => d7 T h2 r gd, callee_succ F.a8 bn8 sc8 (fun _ _ => rfl) fun _ _ _ _ _ _ _ r gd => d8 T r gd, callee_succ F.a9 bn9 sc9 (fun _ _ => rfl) fun _ _ _ _ _ _ _ r gd => d9 T r gd, callee_succ F.a10 bn10 sc10 (fun _ _ => rfl) fun _ _ _ _ _ _ _ r gd => d10 T r gd, callee_succ F.a11 bn11 sc11 (fun _ _ => rfl) fun _ _ _ _ _ _ _ r gd => d11 T r gd, callee_succ F.a12 bn12 sc12 (fun _ _ => rfl) fun _ _ _ _ _ _ _ r gd => d12 T r gd, callee_succ F.a13 bn13 sc13 (fun _ _ => rfl) fun _ _ _ _ _ _ _ r gd => d13 T r gd, callee_succ F.a14 bn14 sc14 (fun _ _ => rfl) fun _ _ _ _ _ _ _ r gd => d14 T r gd, callee_succ F.a15 bn15 sc15 (fun _ _ => rfl) fun _ _ _ _ _ _ _ r gd => d15 T r gd, callee_succ F.a16 bn16 sc16 (fun _ _ => rfl) fun _ _ _ _ _ _ _ r gd => d16 T r gd, callee_succ F.a17 bn17 sc17 (fun _ _ => rfl) fun _ _ _ _ _ _ _ r gd => d17 T r gd, callee_succ F.a18 bn18 sc18 (fun _ _ => rfl) fun _ _ _ _ _ _ _ r gd => d18 T r gd, callee_succ F.a19 bn19 sc19 (fun _ _ => rfl) fun _ _ _ _ _ _ _ r gd => d19 T r gd, callee_succ F.a20 bn20 sc20 (fun _ _ => rfl) fun _ _ _ _ _ _ _ r gd => d20 T r gd, callee_succ F.a21 bn21 sc21 (fun _ _ => rfl) fun _ _ _ _ _ _ _ r gd => d21 T r gd, calleeM_succ F.a5 bn5 sc5 (fun _ _ => rfl) fun _ _ _ _ _ _ _ r gd => d5 T r gd, calleeM_succ F.a6 bn6 sc6 (fun _ _ => rfl) fun _ _ _ _ _ _ _ r gd => d6 T r gd, calleeK_zero F.a22 bn22 fun _ _ => rfl, F.k_Moving, F.n_Moving_found, F.n_Moving_moved, F.n_Moving_start, F.n_Moving_target, F.n_Moving_words, F.b_abs, F.b_int, F.b_len, F.b_list, F.b_range, F.b_repr, F.b_sorted, F.b_sum, F.b_tuple, F.b_zip⟩
  | n + 2 =>
    have T : Tab P w K mg base ct (n + 1) (callN (n + 1)) := tab_all F (n + 1)
    have T0 : Tab P w K mg base ct n (callN n) := tab_all F n
    ⟨callee_succ F.a0 bn0 sc0 (fun _ _ => rfl) fun _ _ _ _ _ _ _ r gd => d0 T r gd, callee_succ F.a1 bn1 sc1 (fun _ _ => rfl) fun _ _ _ _ _ _ _ r gd => d1 T r gd, callee_succ F.a2 bn2 sc2 (fun _ _ => rfl) fun _ _ _ _ _ _ _ r gd => d2 T r gd, callee_succ F.a3 bn3 sc3 (fun _ _ => rfl) fun _ _ _ _ _ _ _ r gd => d3 T r gd, callee_succ F.a4 bn4 sc4 (fun _ _ => rfl) fun _ _ _ _ _ _ _ r gd => d4 T r gd, callee2_succ F.a7 bn7 sc7 (fun _ _ => rfl) fun h2 _ _ _ _ _ _ _ r gd => d7 T h2 r gd, callee_succ F.a8 bn8 sc8 (fun _ _ => rfl) fun _ _ _ _ _ _ _ r gd => d8 T r gd, callee_succ F.a9 bn9 sc9 (fun _ _ => rfl) fun _ _ _ _ _ _ _ r gd => d9 T r gd, callee_succ F.a10 bn10 sc10 (fun _ _ => rfl) fun _ _ _ _ _ _ _ r gd => d10 T r gd, callee_succ F.a11 bn11 sc11 (fun _ _ => rfl) fun _ _ _ _ _ _ _ r gd => d11 T r gd, callee_succ F.a12 bn12 sc12 (fun _ _ => rfl) fun _ _ _ _ _ _ _ r gd => d12 T r gd, callee_succ F.a13 bn13 sc13 (fun _ _ => rfl) fun _ _ _ _ _ _ _ r gd => d13 T r gd, callee_succ F.a14 bn14 sc14 (fun _ _ => rfl) fun _ _ _ _ _ _ _ r gd => d14 T r gd, callee_succ F.a15 bn15 sc15 (fun _ _ => rfl) fun _ _ _ _ _ _ _ r gd => d15 T r gd, callee_succ F.a16 bn16 sc16 (fun _ _ => rfl) fun _ _ _ _ _ _ _ r gd => d16 T r gd, callee_succ F.a17 bn17 sc17 (fun _ _ => rfl) fun _ _ _ _ _ _ _ r gd => d17 T r gd, callee_succ F.a18 bn18 sc18 (fun _ _ => rfl) fun _ _ _ _ _ _ _ r gd => d18 T r gd, callee_succ F.a19 bn19 sc19 (fun _ _ => rfl) fun _ _ _ _ _ _ _ r gd => d19 T r gd, callee_succ F.a20 bn20 sc20 (fun _ _ => rfl) fun _ _ _ _ _ _ _ r gd => d20 T r gd, callee_succ F.a21 bn21 sc21 (fun _ _ => rfl) fun _ _ _ _ _ _ _ r gd => d21 T r gd, calleeM_succ F.a5 bn5 sc5 (fun _ _ => rfl) fun _ _ _ _ _ _ _ r gd => d5 T r gd, calleeM_succ F.a6 bn6 sc6 (fun _ _ => rfl) fun _ _ _ _ _ _ _ r gd => d6 T r gd, calleeK_succ (L := ini22 (callN n)) F.a22 bn22 sc22 (by decide) (show 5 < 900 from by decide) rfl (fun _ _ => rfl) fun _ _ _ _ _ _ _ r gd => d22 T0 r gd, F.k_Moving, F.n_Moving_found, F.n_Moving_moved, F.n_Moving_start, F.n_Moving_target, F.n_Moving_words, F.b_abs, F.b_int, F.b_len, F.b_list, F.b_range, F.b_repr, F.b_sorted, F.b_sum, F.b_tuple, F.b_zip⟩
end VI
set_option linter.all false
namespace C9

def tot (F : Nat → List Int) (o : List Nat) : Nat := (o.map fun a => 1 + (F a).length).sum
theorem tot_nil {F : Nat → List Int} : tot F [] = 0 := rfl
theorem tot_cons {F : Nat → List Int} {a : Nat} {o : List Nat} : tot F (a :: o) = 1 + (F a).length + tot F o := by simp [tot]
theorem tot_append {F : Nat → List Int} {o p : List Nat} : tot F (o ++ p) = tot F o + tot F p := by simp [tot]
theorem tot_one {F : Nat → List Int} {a : Nat} : tot F [a] = 1 + (F a).length := by simp [tot]
theorem tot_perm {F : Nat → List Int} {o p : List Nat} (h : o.Perm p) : tot F o = tot F p := (h.map _).sum_nat
def Wd (A : List Nat) (w : Int) : Prop := w % 2 = 1 ∨ ∃ b ∈ A, w = 2 * (b : Int)
inductive Reach (F : Nat → List Int) (ws : List Int) : Nat → Prop
  | root {a : Nat} : 2 * (a : Int) ∈ ws → Reach F ws a
  | step {b a : Nat} : Reach F ws b → 2 * (a : Int) ∈ F b → Reach F ws a
def rest (A found : List Nat) : List Nat := A.filter fun a => decide (a ∉ found)
theorem rest_same {a : Nat} {found : List Nat} : ∀ {A : List Nat}, a ∉ A → rest A (found ++ [a]) = rest A found
  | [], _ => rfl
  | x :: A, h => by
    have hx : x ≠ a := fun e => h (by simp [e])
    have ih := rest_same (found := found) (fun m => h (List.mem_cons_of_mem _ m))
    unfold rest at ih ⊢
    rw [List.filter_cons, List.filter_cons, ih]
    by_cases hf : x ∈ found
    · simp [hf]
    · simp [hf, hx]
theorem tot_rest {F : Nat → List Int} {a : Nat} {found : List Nat} (hf : a ∉ found) : ∀ {A : List Nat}, A.Nodup → a ∈ A → tot F (rest A (found ++ [a])) + (1 + (F a).length) = tot F (rest A found)
  | [], _, h => by cases h
  | x :: A, nd, h => by
    obtain ⟨n1, n2⟩ := List.nodup_cons.mp nd
    by_cases hx : x = a
    · subst hx
      have e := rest_same (found := found) n1
      have e1 : rest (x :: A) (found ++ [x]) = rest A (found ++ [x]) := by
        unfold rest
        rw [List.filter_cons]
        simp
      have e2 : rest (x :: A) found = x :: rest A found := by
        unfold rest
        rw [List.filter_cons]
        simp [hf]
      rw [e1, e2, e, tot_cons]
      omega
    · have h' : a ∈ A := by
        rcases List.mem_cons.mp h with e | m
        · exact absurd e.symm hx
        · exact m
      have ih := tot_rest (F := F) hf n2 h'
      by_cases hq : x ∈ found
      · have e1 : rest (x :: A) (found ++ [a]) = rest A (found ++ [a]) := by
          unfold rest
          rw [List.filter_cons]
          simp [hq]
        have e2 : rest (x :: A) found = rest A found := by
          unfold rest
          rw [List.filter_cons]
          simp [hq]
        rw [e1, e2]
        exact ih
      · have e1 : rest (x :: A) (found ++ [a]) = x :: rest A (found ++ [a]) := by
          unfold rest
          rw [List.filter_cons]
          simp [hq, hx]
        have e2 : rest (x :: A) found = x :: rest A found := by
          unfold rest
          rw [List.filter_cons]
          simp [hq]
        rw [e1, e2, tot_cons, tot_cons]
        omega
theorem tot_rest_le {F : Nat → List Int} {found : List Nat} : ∀ {A : List Nat}, tot F (rest A found) ≤ tot F A
  | [] => Nat.le_refl _
  | x :: A => by
    have ih := tot_rest_le (F := F) (found := found) (A := A)
    unfold rest at ih ⊢
    rw [List.filter_cons]
    split
    · rw [tot_cons, tot_cons]; omega
    · rw [tot_cons]; omega
/-- a list of things to do, worked off in any order -/
structure DI (F : Nat → List Int) (A : List Nat) (ws : List Int) (found : List Nat) (todo : List Int) : Prop where
  nd : found.Nodup
  sub : ∀ a ∈ found, a ∈ A
  wd : ∀ w ∈ todo, Wd A w
  rf : ∀ a ∈ found, Reach F ws a
  rt : ∀ a : Nat, 2 * (a : Int) ∈ todo → Reach F ws a
  cr : ∀ a : Nat, 2 * (a : Int) ∈ ws → a ∈ found ∨ 2 * (a : Int) ∈ todo
  cf : ∀ b ∈ found, ∀ a : Nat, 2 * (a : Int) ∈ F b → a ∈ found ∨ 2 * (a : Int) ∈ todo
section
variable {F : Nat → List Int} {A : List Nat} {ws : List Int} {found : List Nat} {t : List Int}
theorem two_inj {a b : Nat} (h : 2 * (a : Int) = 2 * (b : Int)) : a = b := by omega
theorem DI.start (h : ∀ w ∈ ws, Wd A w) {t : List Int} (h1 : ∀ w ∈ t, w ∈ ws) (h2 : ∀ a : Nat, 2 * (a : Int) ∈ ws → 2 * (a : Int) ∈ t) : DI F A ws [] t :=
  ⟨List.nodup_nil, (fun _ m => by cases m), fun w m => h w (h1 w m), (fun _ m => by cases m), fun a m => Reach.root (h1 _ m), fun a m => Or.inr (h2 a m), (fun _ m => by cases m)⟩
theorem DI.done (h : DI F A ws found []) (a : Nat) : a ∈ found ↔ Reach F ws a := by
  refine ⟨h.rf a, fun r => ?_⟩
  induction r with
  | root m => exact (h.cr _ m).resolve_right (by simp)
  | step _ m ih => exact (h.cf _ ih _ m).resolve_right (by simp)
theorem DI.skip {w : Int} (h : DI F A ws found (t ++ [w])) (hw : w % 2 = 1 ∨ ∃ a ∈ found, w = 2 * (a : Int)) : DI F A ws found t := by
  have key : ∀ a : Nat, (a ∈ found ∨ 2 * (a : Int) ∈ t ++ [w]) → a ∈ found ∨ 2 * (a : Int) ∈ t := fun a o => by
    rcases o with o | o
    · exact .inl o
    · rcases List.mem_append.mp o with m | m
      · exact .inr m
      · rw [List.mem_singleton] at m
        rcases hw with z | ⟨b, mb, e⟩
        · omega
        · have : a = b := by omega
          exact .inl (this ▸ mb)
  exact ⟨h.nd, h.sub, fun w m => h.wd w (List.mem_append_left _ m), h.rf, fun a m => h.rt a (List.mem_append_left _ m), fun a m => key a (h.cr a m), fun b mb a m => key a (h.cf b mb a m)⟩
theorem DI.new {a : Nat} {L : List Int} (h : DI F A ws found (t ++ [2 * (a : Int)])) (hn : a ∉ found) (hF : ∀ a ∈ A, ∀ w ∈ F a, Wd A w) (h1 : ∀ w ∈ L, w ∈ F a) (h2 : ∀ b : Nat, 2 * (b : Int) ∈ F a → 2 * (b : Int) ∈ L) : a ∈ A ∧ DI F A ws (found ++ [a]) (t ++ L) := by
  have ha : a ∈ A := by
    rcases h.wd (2 * (a : Int)) (by simp) with z | ⟨b, mb, e⟩
    · omega
    · have : a = b := by omega
      exact this ▸ mb
  have ra : Reach F ws a := h.rt a (by simp)
  have key : ∀ b : Nat, (b ∈ found ∨ 2 * (b : Int) ∈ t ++ [2 * (a : Int)]) → b ∈ found ++ [a] ∨ 2 * (b : Int) ∈ t ++ L := fun b o => by
    rcases o with o | o
    · exact .inl (List.mem_append_left _ o)
    · rcases List.mem_append.mp o with m | m
      · exact .inr (List.mem_append_left _ m)
      · rw [List.mem_singleton] at m
        have : b = a := by omega
        exact .inl (by simp [this])
  refine ⟨ha, ?_, fun b m => ?_, fun w m => ?_, fun b m => ?_, fun b m => ?_, fun b m => key b (h.cr b m), fun c mc b m => ?_⟩
  · exact List.nodup_append.mpr ⟨h.nd, by simp, fun x hx y hy => by rw [List.mem_singleton.mp hy]; exact fun e => hn (e ▸ hx)⟩
  · rcases List.mem_append.mp m with m | m
    · exact h.sub b m
    · rw [List.mem_singleton.mp m]; exact ha
  · rcases List.mem_append.mp m with m | m
    · exact h.wd w (List.mem_append_left _ m)
    · exact hF a ha w (h1 w m)
  · rcases List.mem_append.mp m with m | m
    · exact h.rf b m
    · rw [List.mem_singleton.mp m]; exact ra
  · rcases List.mem_append.mp m with m | m
    · exact h.rt b (List.mem_append_left _ m)
    · exact .step ra (h1 _ m)
  · rcases List.mem_append.mp mc with mc | mc
    · exact key b (h.cf c mc b m)
    · rw [List.mem_singleton.mp mc] at m
      exact .inr (List.mem_append_right _ (h2 b m))
end
/-- two lists of the same things -/
theorem perm_of {o p : List Nat} (h1 : o.Nodup) (h2 : p.Nodup) (h : ∀ a, a ∈ o ↔ a ∈ p) : o.Perm p := (List.perm_ext_iff_of_nodup h1 h2).mpr h

/-! breadth first -/
def put (o : List Nat) (w : Int) : List Nat := if w % 2 = 0 ∧ (w / 2).toNat ∉ o then o ++ [(w / 2).toNat] else o
theorem put_odd {o : List Nat} {w : Int} (h : w % 2 = 1) : put o w = o := by unfold put; rw [if_neg (by omega)]
theorem put_old {o : List Nat} {a : Nat} (h : a ∈ o) : put o (2 * (a : Int)) = o := by
  unfold put
  have e : (2 * (a : Int) / 2).toNat = a := by omega
  rw [if_neg (by rw [e]; exact fun z => z.2 h)]
theorem put_new {o : List Nat} {a : Nat} (h : a ∉ o) : put o (2 * (a : Int)) = o ++ [a] := by
  unfold put
  have e : (2 * (a : Int) / 2).toNat = a := by omega
  rw [e, if_pos ⟨by omega, h⟩]
structure PutI (A o o' : List Nat) (ws : List Int) : Prop where
  pre : ∃ r, o' = o ++ r
  nd : o'.Nodup
  sub : ∀ a ∈ o', a ∈ A
  mem : ∀ a : Nat, a ∈ o' ↔ a ∈ o ∨ 2 * (a : Int) ∈ ws
theorem puts_ok {A : List Nat} : ∀ {ws : List Int} {o : List Nat}, o.Nodup → (∀ a ∈ o, a ∈ A) → (∀ w ∈ ws, Wd A w) → PutI A o (ws.foldl put o) ws
  | [], o, nd, sub, _ => ⟨⟨[], by simp⟩, nd, sub, fun a => by simp⟩
  | w :: ws, o, nd, sub, h => by
    have h' : ∀ w ∈ ws, Wd A w := fun x m => h x (List.mem_cons_of_mem _ m)
    rw [List.foldl_cons]
    rcases h w (by simp) with z | ⟨b, mb, e⟩
    · rw [put_odd z]
      have r := puts_ok nd sub h'
      refine ⟨r.pre, r.nd, r.sub, fun a => ?_⟩
      rw [r.mem, List.mem_cons]
      refine ⟨fun q => q.imp id .inr, fun q => ?_⟩
      rcases q with q | q | q
      · exact .inl q
      · omega
      · exact .inr q
    · subst e
      by_cases hb : b ∈ o
      · rw [put_old hb]
        have r := puts_ok nd sub h'
        refine ⟨r.pre, r.nd, r.sub, fun a => ?_⟩
        rw [r.mem, List.mem_cons]
        refine ⟨fun q => q.imp id .inr, fun q => ?_⟩
        rcases q with q | q | q
        · exact .inl q
        · have : a = b := by omega
          exact .inl (this ▸ hb)
        · exact .inr q
      · rw [put_new hb]
        have r := puts_ok (o := o ++ [b]) (List.nodup_append.mpr ⟨nd, by simp, fun x hx y hy => by rw [List.mem_singleton.mp hy]; exact fun e => hb (e ▸ hx)⟩) (fun a m => by
          rcases List.mem_append.mp m with m | m
          · exact sub a m
          · rw [List.mem_singleton.mp m]; exact mb) h'
        obtain ⟨q, e⟩ := r.pre
        refine ⟨⟨b :: q, by rw [e]; simp⟩, r.nd, r.sub, fun a => ?_⟩
        rw [r.mem, List.mem_append, List.mem_singleton, List.mem_cons]
        refine ⟨fun q => ?_, fun q => ?_⟩
        · rcases q with (q | q) | q
          · exact .inl q
          · exact .inr (.inl (by omega))
          · exact .inr (.inr q)
        · rcases q with q | q | q
          · exact .inl (.inl q)
          · exact .inl (.inr (by omega))
          · exact .inr q
def scan (F : Nat → List Int) : Nat → Nat → List Nat → List Nat
  | 0, _, o => o
  | n + 1, i, o => match o[i]? with
    | some a => scan F n (i + 1) ((F a).foldl put o)
    | none => o
structure BI (F : Nat → List Int) (A : List Nat) (ws : List Int) (o : List Nat) (i : Nat) : Prop where
  nd : o.Nodup
  sub : ∀ a ∈ o, a ∈ A
  rf : ∀ a ∈ o, Reach F ws a
  cr : ∀ a : Nat, 2 * (a : Int) ∈ ws → a ∈ o
  cf : ∀ j b, j < i → o[j]? = some b → ∀ a : Nat, 2 * (a : Int) ∈ F b → a ∈ o
section
variable {F : Nat → List Int} {A : List Nat} {ws : List Int}
theorem BI.start (h : ∀ w ∈ ws, Wd A w) : BI F A ws (ws.foldl put []) 0 := by
  have r := puts_ok (A := A) List.nodup_nil (fun _ m => by cases m) h
  exact ⟨r.nd, r.sub, fun a m => .root (((r.mem a).mp m).resolve_left (by simp)), fun a m => (r.mem a).mpr (.inr m), fun j b hj => absurd hj (by omega)⟩
theorem BI.next (hF : ∀ a ∈ A, ∀ w ∈ F a, Wd A w) {o : List Nat} {i a : Nat} (h : BI F A ws o i) (e : o[i]? = some a) : BI F A ws ((F a).foldl put o) (i + 1) := by
  have ma : a ∈ o := List.mem_of_getElem? e
  have r := puts_ok (A := A) h.nd h.sub (hF a (h.sub a ma))
  have keep : ∀ {j b}, o[j]? = some b → ((F a).foldl put o)[j]? = some b := fun {j b} q => by
    obtain ⟨p, ep⟩ := r.pre
    rw [ep, List.getElem?_append_left (List.getElem?_eq_some_iff.mp q).1, q]
  have back : ∀ {j b}, j < o.length → ((F a).foldl put o)[j]? = some b → o[j]? = some b := fun {j b} hj q => by
    obtain ⟨p, ep⟩ := r.pre
    rw [ep, List.getElem?_append_left hj] at q
    exact q
  have hi := (List.getElem?_eq_some_iff.mp e).1
  refine ⟨r.nd, r.sub, fun b m => ?_, fun b m => (r.mem b).mpr (.inl (h.cr b m)), fun j b hj q c m => ?_⟩
  · rcases (r.mem b).mp m with m | m
    · exact h.rf b m
    · exact .step (h.rf a ma) m
  · have q' := back (by omega) q
    by_cases hji : j < i
    · exact (r.mem c).mpr (.inl (h.cf j b hji q' c m))
    · have : j = i := by omega
      subst this
      rw [e] at q'
      cases q'
      exact (r.mem c).mpr (.inr m)
theorem BI.done {o : List Nat} {i : Nat} (h : BI F A ws o i) (hi : o.length ≤ i) (a : Nat) : a ∈ o ↔ Reach F ws a := by
  refine ⟨h.rf a, fun r => ?_⟩
  induction r with
  | root m => exact h.cr _ m
  | step _ m ih =>
    obtain ⟨j, hj, ej⟩ := List.getElem_of_mem ih
    exact h.cf j _ (by omega) (by rw [List.getElem?_eq_getElem hj, ej]) _ m
theorem sub_len : ∀ {o A : List Nat}, o.Nodup → (∀ a ∈ o, a ∈ A) → o.length ≤ A.length
  | [], _, _, _ => Nat.zero_le _
  | a :: o, A, nd, h => by
    obtain ⟨n1, n2⟩ := List.nodup_cons.mp nd
    have ma := h a (by simp)
    have ih := sub_len (A := A.erase a) n2 fun b m => (List.mem_erase_of_ne (fun (e : b = a) => n1 (e ▸ m))).mpr (h b (List.mem_cons_of_mem _ m))
    rw [List.length_erase_of_mem ma] at ih
    have := List.length_pos_of_mem ma
    rw [List.length_cons]
    omega
theorem BI.len {o : List Nat} {i : Nat} (h : BI F A ws o i) (nd : A.Nodup) : o.length ≤ A.length := by
  exact sub_len h.nd h.sub
theorem scan_ok (nd : A.Nodup) (hF : ∀ a ∈ A, ∀ w ∈ F a, Wd A w) : ∀ (n i : Nat) (o : List Nat), BI F A ws o i → i ≤ o.length → A.length < n + i → (∃ r, scan F n i o = o ++ r) ∧ BI F A ws (scan F n i o) (scan F n i o).length
  | 0, i, o, h, hi, hn => absurd (h.len nd) (by omega)
  | n + 1, i, o, h, hi, hn => by
    unfold scan
    cases e : o[i]? with
    | none =>
      have hl : o.length ≤ i := List.getElem?_eq_none_iff.mp e
      have : i = o.length := by omega
      exact ⟨⟨[], by simp⟩, this ▸ h⟩
    | some a =>
      have h' := h.next hF e
      have r := puts_ok (A := A) h.nd h.sub (hF a (h.sub a (List.mem_of_getElem? e)))
      obtain ⟨q, eq⟩ := r.pre
      have hi2 := (List.getElem?_eq_some_iff.mp e).1
      obtain ⟨⟨p, ep⟩, h2⟩ := scan_ok nd hF n (i + 1) _ h' (by rw [eq, List.length_append]; omega) (by omega)
      exact ⟨⟨q ++ p, by show scan F n (i + 1) ((F a).foldl put o) = _; rw [ep, eq, List.append_assoc]⟩, h2⟩
end
def ord (F : Nat → List Int) (ws : List Int) : List Nat := scan F 1000000 0 (ws.foldl put [])
structure OrdI (F : Nat → List Int) (A : List Nat) (ws : List Int) (o : List Nat) : Prop where
  nd : o.Nodup
  sub : ∀ a ∈ o, a ∈ A
  mem : ∀ a, a ∈ o ↔ Reach F ws a
theorem ord_ok {F : Nat → List Int} {A : List Nat} {ws : List Int} (nd : A.Nodup) (hz : A.length < 1000000) (hF : ∀ a ∈ A, ∀ w ∈ F a, Wd A w) (hw : ∀ w ∈ ws, Wd A w) : OrdI F A ws (ord F ws) := by
  have h := (scan_ok nd hF 1000000 0 _ (BI.start (F := F) hw) (Nat.zero_le _) (by omega)).2
  exact ⟨h.nd, h.sub, h.done (Nat.le_refl _)⟩

/-! where they go -/
def plc (F : Nat → List Int) (base : Nat) : List Nat → List (Nat × Nat)
  | [] => []
  | a :: r => (a, base) :: plc F (base + (1 + (F a).length)) r
theorem plc_append {F : Nat → List Int} : ∀ {o p : List Nat} {base : Nat}, plc F base (o ++ p) = plc F base o ++ plc F (base + tot F o) p
  | [], p, base => by simp [plc, tot_nil]
  | a :: o, p, base => by
    rw [List.cons_append, plc, plc, plc_append, tot_cons, List.cons_append]
    congr 3
    omega
theorem plc_keys {F : Nat → List Int} : ∀ {o : List Nat} {base : Nat}, (plc F base o).map (·.1) = o
  | [], base => rfl
  | a :: o, base => by rw [plc, List.map_cons, plc_keys]
def look (pl : List (Nat × Nat)) (a : Nat) : Option Nat := (pl.find? fun p => decide (p.1 = a)).map (·.2)
theorem look_left {pl ql : List (Nat × Nat)} {a k : Nat} (h : look pl a = some k) : look (pl ++ ql) a = some k := by
  unfold look at h ⊢
  rw [List.find?_append]
  cases e : pl.find? fun p => decide (p.1 = a) with
  | none => rw [e] at h; cases h
  | some p => rw [e] at h; exact h
theorem look_none {pl : List (Nat × Nat)} {a : Nat} (h : a ∉ pl.map (·.1)) : look pl a = none := by
  unfold look
  rw [List.find?_eq_none.mpr]
  · rfl
  · intro p m e
    exact h (List.mem_map.mpr ⟨p, m, of_decide_eq_true e⟩)
theorem look_some {pl : List (Nat × Nat)} {a : Nat} (h : a ∈ pl.map (·.1)) : ∃ k, look pl a = some k := by
  obtain ⟨p, m, e⟩ := List.mem_map.mp h
  unfold look
  cases q : pl.find? fun p => decide (p.1 = a) with
  | none => exact absurd (decide_eq_true e) (List.find?_eq_none.mp q p m)
  | some p => exact ⟨p.2, rfl⟩
def pos (F : Nat → List Int) (base : Nat) (o : List Nat) (a : Nat) : Nat := (look (plc F base o) a).getD 0
theorem pos_look {F : Nat → List Int} {base : Nat} {o : List Nat} {a : Nat} (h : a ∈ o) : look (plc F base o) a = some (pos F base o a) := by
  obtain ⟨k, e⟩ := look_some (pl := plc F base o) (a := a) (by rw [plc_keys]; exact h)
  unfold pos
  rw [e]
  rfl
theorem pos_app {F : Nat → List Int} {base : Nat} {o r : List Nat} {a : Nat} (h : a ∈ o) : pos F base (o ++ r) a = pos F base o a := by
  have e := pos_look (F := F) (base := base) h
  have e2 : look (plc F base (o ++ r)) a = some (pos F base o a) := by
    rw [plc_append]
    exact look_left e
  unfold pos at e2 ⊢
  rw [e2]
  rfl
theorem pos_mid {F : Nat → List Int} {base : Nat} {o1 o2 : List Nat} {a : Nat} (h : a ∉ o1) : pos F base (o1 ++ a :: o2) a = base + tot F o1 := by
  unfold pos look
  rw [plc_append, List.find?_append]
  have : (plc F base o1).find? (fun p => decide (p.1 = a)) = none := List.find?_eq_none.mpr fun p m e => h (by
    have := (List.mem_map (f := fun p : Nat × Nat => p.1)).mpr ⟨p, m, rfl⟩
    rw [plc_keys] at this
    rw [← of_decide_eq_true e]
    exact this)
  rw [this, plc]
  simp
theorem split_at {o : List Nat} {a : Nat} (nd : o.Nodup) (h : a ∈ o) : ∃ o1 o2, o = o1 ++ a :: o2 ∧ a ∉ o1 := by
  obtain ⟨o1, o2, e⟩ := List.append_of_mem h
  refine ⟨o1, o2, e, fun m => ?_⟩
  rw [e] at nd
  exact (List.nodup_append.mp nd).2.2 a m a (by simp) rfl
theorem pos_lt {F : Nat → List Int} {base : Nat} {o : List Nat} (nd : o.Nodup) {a : Nat} (h : a ∈ o) : base ≤ pos F base o a ∧ pos F base o a + (1 + (F a).length) ≤ base + tot F o := by
  obtain ⟨o1, o2, rfl, n1⟩ := split_at nd h
  rw [pos_mid n1, tot_append, tot_cons]
  omega
theorem pos_inj {F : Nat → List Int} {base : Nat} : ∀ {o : List Nat}, o.Nodup → ∀ {a b : Nat}, a ∈ o → b ∈ o → pos F base o a = pos F base o b → a = b := by
  intro o nd a b ha hb e
  obtain ⟨o1, o2, rfl, n1⟩ := split_at nd ha
  by_cases hb1 : b ∈ o1
  · have nd1 := (List.nodup_append.mp nd).1
    have := (pos_lt (F := F) (base := base) nd1 hb1).2
    rw [pos_app (r := a :: o2) hb1, pos_mid n1] at e
    omega
  · by_cases hab : b = a
    · exact hab.symm
    · have e1 : o1 ++ a :: o2 = (o1 ++ [a]) ++ o2 := by simp
      have hb2 : b ∈ o2 := by
        rcases List.mem_append.mp hb with m | m
        · exact absurd m hb1
        · rcases List.mem_cons.mp m with m | m
          · exact absurd m hab
          · exact m
      obtain ⟨p1, p2, ep, np⟩ := split_at ((List.nodup_cons.mp (List.nodup_append.mp nd).2.1).2) hb2
      subst ep
      have e2 : o1 ++ a :: (p1 ++ b :: p2) = (o1 ++ a :: p1) ++ b :: p2 := by simp
      have nb : b ∉ o1 ++ a :: p1 := by
        simp only [List.mem_append, List.mem_cons, not_or]
        exact ⟨hb1, hab, np⟩
      have q1 := pos_mid (F := F) (base := base) (o2 := p2) nb
      rw [e2, q1, ← e2, pos_mid n1, tot_append, tot_cons] at e
      omega
/-- a word, moved -/
def rel (F : Nat → List Int) (base : Nat) (o : List Nat) (w : Int) : Int := if w % 2 = 0 then 2 * (pos F base o (w / 2).toNat : Int) else w
theorem rel_odd {F : Nat → List Int} {base : Nat} {o : List Nat} {w : Int} (h : w % 2 = 1) : rel F base o w = w := by unfold rel; rw [if_neg (by omega)]
theorem rel_even {F : Nat → List Int} {base : Nat} {o : List Nat} {a : Nat} : rel F base o (2 * (a : Int)) = 2 * (pos F base o a : Int) := by
  unfold rel
  have e : (2 * (a : Int) / 2).toNat = a := by omega
  rw [if_pos (by omega), e]
theorem rel_app {F : Nat → List Int} {base : Nat} {o r : List Nat} {w : Int} (h : Wd o w) : rel F base (o ++ r) w = rel F base o w := by
  rcases h with z | ⟨b, mb, rfl⟩
  · rw [rel_odd z, rel_odd z]
  · rw [rel_even, rel_even, pos_app mb]
theorem rel_inj {F : Nat → List Int} {base : Nat} {o : List Nat} (nd : o.Nodup) {v w : Int} (hv : Wd o v) (hw : Wd o w) (e : rel F base o v = rel F base o w) : v = w := by
  rcases hv with z | ⟨a, ma, rfl⟩
  · rcases hw with y | ⟨b, mb, rfl⟩
    · rwa [rel_odd z, rel_odd y] at e
    · rw [rel_odd z, rel_even] at e; omega
  · rcases hw with y | ⟨b, mb, rfl⟩
    · rw [rel_odd y, rel_even] at e; omega
    · rw [rel_even, rel_even] at e
      have := pos_inj nd ma mb (two_inj e)
      rw [this]
theorem rel_par {F : Nat → List Int} {base : Nat} {o : List Nat} {w : Int} (hw : Wd o w) : rel F base o w % 2 = w % 2 := by
  rcases hw with z | ⟨a, ma, rfl⟩
  · rw [rel_odd z]
  · rw [rel_even]; omega

/-! the same shape elsewhere -/
/-- G at the places ρ a is F moved -/
structure Iso (F G : Nat → List Int) (base : Nat) (o : List Nat) (ws vs : List Int) : Prop where
  nd : o.Nodup
  wd : ∀ a ∈ o, ∀ w ∈ F a, Wd o w
  wr : ∀ w ∈ ws, Wd o w
  rc : ∀ a ∈ o, Reach F ws a
  fld : ∀ a ∈ o, G (pos F base o a) = (F a).map (rel F base o)
  rts : vs = ws.map (rel F base o)
section
variable {F G : Nat → List Int} {base : Nat} {o : List Nat} {ws vs : List Int}
theorem Iso.reach (h : Iso F G base o ws vs) (c : Nat) : Reach G vs c ↔ ∃ a ∈ o, c = pos F base o a := by
  have back : ∀ {w : Int} {c : Nat}, Wd o w → rel F base o w = 2 * (c : Int) → ∃ a ∈ o, w = 2 * (a : Int) ∧ c = pos F base o a := fun {w c} hw e => by
    rcases hw with z | ⟨a, ma, rfl⟩
    · rw [rel_odd z] at e; omega
    · rw [rel_even] at e
      exact ⟨a, ma, rfl, (two_inj e).symm⟩
  constructor
  · intro r
    induction r with
    | root m =>
      rw [h.rts] at m
      obtain ⟨w, mw, e⟩ := List.mem_map.mp m
      obtain ⟨a, ma, _, e2⟩ := back (h.wr w mw) e
      exact ⟨a, ma, e2⟩
    | step _ m ih =>
      obtain ⟨b, mb, rfl⟩ := ih
      rw [h.fld b mb] at m
      obtain ⟨w, mw, e⟩ := List.mem_map.mp m
      obtain ⟨a, ma, _, e2⟩ := back (h.wd b mb w mw) e
      exact ⟨a, ma, e2⟩
  · rintro ⟨a, ma, rfl⟩
    have all : ∀ a, Reach F ws a → a ∈ o ∧ Reach G vs (pos F base o a) := fun a r => by
      induction r with
      | @root a m =>
        refine ⟨?_, .root ?_⟩
        · rcases h.wr _ m with z | ⟨b, mb, e⟩
          · omega
          · exact two_inj e ▸ mb
        · rw [h.rts]
          exact List.mem_map.mpr ⟨_, m, rel_even⟩
      | @step b a _ m ih =>
        refine ⟨?_, .step ih.2 ?_⟩
        · rcases h.wd b ih.1 _ m with z | ⟨c, mc, e⟩
          · omega
          · exact two_inj e ▸ mc
        · rw [h.fld b ih.1]
          exact List.mem_map.mpr ⟨_, m, rel_even⟩
    exact (all a (h.rc a ma)).2
theorem Iso.nd2 (h : Iso F G base o ws vs) : (o.map (pos F base o)).Nodup := List.nodup_iff_pairwise_ne.mpr (List.pairwise_map.mpr ((List.nodup_iff_pairwise_ne.mp h.nd).imp_of_mem fun ha hb hne e => hne (pos_inj h.nd ha hb e)))
theorem Iso.tot (h : Iso F G base o ws vs) {p : List Nat} (np : p.Nodup) (hp : ∀ c, c ∈ p ↔ Reach G vs c) : C9.tot G p = C9.tot F o := by
  have e : p.Perm (o.map (pos F base o)) := perm_of np h.nd2 fun c => by
    rw [hp, h.reach, List.mem_map]
    exact ⟨fun ⟨a, m, e⟩ => ⟨a, m, e.symm⟩, fun ⟨a, m, e⟩ => ⟨a, m, e.symm⟩⟩
  rw [tot_perm e]
  unfold C9.tot
  rw [List.map_map]
  congr 1
  refine List.map_congr_left fun a m => ?_
  show 1 + (G (pos F base o a)).length = _
  rw [h.fld a m, List.length_map]
end
end C9
set_option Elab.async false
set_option linter.all false
set_option maxRecDepth 100000
namespace VI
open PySem PySem.Spec PyProof.Rows L2
namespace Q9
open C9

/-! numbers, lists of them -/
def ivs (xs : List Int) : List PyData := xs.map PyData.int
abbrev ti (xs : List Int) : W := .d (.tuple (ivs xs))
abbrev li (xs : List Int) : W := .d (.list (ivs xs))
theorem ivs_app (xs ys : List Int) : ivs (xs ++ ys) = ivs xs ++ ivs ys := List.map_append ..
theorem ivs_len (xs : List Int) : (ivs xs).length = xs.length := List.length_map ..
theorem log_b {i : Int} (h : i.natAbs < 18446744073709551616) : i.natAbs.log2 < 64 := by
  by_cases z : i.natAbs = 0
  · rw [z]; decide
  · exact (Nat.log2_lt z).mpr (by have : (2 : Nat) ^ 64 = 18446744073709551616 := by decide
                                  omega)
theorem g_mul {i j : Int} {S : Store} (hi : i.natAbs < 18446744073709551616) (hj : j.natAbs < 18446744073709551616) : gMulA (iw i) (iw j) S = some (iw (i * j), S) :=
  ev_mulA (decide_eq_true (by have := log_b hi; have := log_b hj; omega))
theorem g_addI {i j : Int} {S : Store} : gAdd (iw i) (iw j) S = some (iw (i + j), S) := rfl
theorem g_subI {i j : Int} {S : Store} : gSub (iw i) (iw j) S = some (iw (i - j), S) := rfl
theorem g_divI {i j : Int} {S : Store} (h : 0 < j ∧ j < 1073741824) : gDiv (iw i) (iw j) S = some (iw (i / j), S) := by
  show (if decide (0 < j ∧ j < 1073741824) = true then _ else _) = _
  rw [if_pos (decide_eq_true h)]
theorem g_modI {i j : Int} {S : Store} (h : 0 < j) : gMod (iw i) (iw j) S = some (iw (i % j), S) := by
  show (if decide (0 < j) = true then _ else _) = _
  rw [if_pos (decide_eq_true h)]
theorem g_int {i : Int} {S : Store} : gIntA [iw i] S = some (iw i, S) := rfl
theorem g_eqI {i j : Int} {S : Store} : gEq (iw i) (iw j) S = some (bt (decide (i = j)), S) := ev_eqI
theorem g_ltI {i j : Int} {S : Store} : gLt (iw i) (iw j) S = some (bt (decide (i < j)), S) := rfl
theorem g_gtI {i j : Int} {S : Store} : gGt (iw i) (iw j) S = some (bt (decide (j < i)), S) := rfl
theorem g_ixT {xs : List PyData} {i : Nat} {x : PyData} {S : Store} (h : xs[i]? = some x) : gIx (tu xs) (iw (i : Int)) S = some (.d x, S) := by
  have hi := (List.getElem?_eq_some_iff.mp h).1
  show ((atI xs (i : Int)).map fun x => (W.d x, S)) = _
  rw [atI_in (by omega) (by omega), Int.toNat_natCast, h]
  rfl
theorem g_ixL {xs : List PyData} {i : Nat} {x : PyData} {S : Store} (h : xs[i]? = some x) : gIx (.d (.list xs)) (iw (i : Int)) S = some (.d x, S) := g_ixT (xs := xs) h
theorem g_ixl {xs : List PyData} {i l : Nat} {x : PyData} {S : Store} (hl : S[l]? = some (.lst xs)) (h : xs[i]? = some x) : gIx (.loc l) (iw (i : Int)) S = some (.d x, S) := by
  have hi := (List.getElem?_eq_some_iff.mp h).1
  have e : asSeq (.loc l) S = some xs := by simp only [asSeq, hl]
  unfold gIx
  simp only [e]
  rw [atI_in (by omega) (by omega), Int.toNat_natCast, h]
  rfl
theorem ivs_get {xs : List Int} {a : Nat} (h : a < xs.length) : (ivs xs)[a]? = some (.int (xs.getD a 0)) := by
  unfold ivs
  rw [List.getElem?_map, List.getElem?_eq_getElem h, List.getD_eq_getElem?_getD, List.getElem?_eq_getElem h]
  rfl
theorem sIx_cut {α : Type} (xs : List α) (i j : Nat) : cutG xs (some (i : Int)) (some (j : Int)) = (xs.drop i).take (j - i) := by
  unfold cutG
  rw [HT.sIx_nat, HT.sIx_nat]
  by_cases h : i ≤ xs.length
  · rw [Nat.min_eq_left h]
    by_cases h2 : j ≤ xs.length
    · rw [Nat.min_eq_left h2]
    · rw [Nat.min_eq_right (a := j) (by omega)]
      rw [List.take_of_length_le (i := xs.length - i) (by rw [List.length_drop]; omega), List.take_of_length_le (by rw [List.length_drop]; omega)]
  · rw [List.drop_of_length_le (i := i) (by omega), Nat.min_eq_right (a := i) (by omega), List.drop_of_length_le (Nat.le_refl _), List.take_nil, List.take_nil]

/-! headers, objects -/
def hdr (s e m : Int) : Int := 2 * (5 * (256 * e + m) + s) + 1
def many (w : Int) : Nat := (w / 2 / 5 % 256).toNat
def F (hs : List Int) (a : Nat) : List Int := (hs.drop (a + 1)).take (many (hs.getD a 0))
theorem many_int (w : Int) : w / 2 / 5 % 256 = (many w : Int) := by unfold many; omega
theorem k_read0 (n : Nat) {S : Store} {w : Int} : callN (n + 1) 0 [iw w] S = .ok (tu [.int (w / 2 % 5), .int (w / 2 / 5 / 256), .int (w / 2 / 5 % 256)]) S := rfl
theorem k_size (n : Nat) {S : Store} {hs : List Int} {a : Nat} (h : a < hs.length) : callN (n + 2) 1 [ti hs, iw (a : Int)] S = .ok (iw ((many (hs.getD a 0) : Int) + 1)) S := by
  show toR (b1 (callN (n + 1)) [some (ti hs), some (iw a)] S) = _
  have f1 : fCall 1 (callN (n + 1) 0) (fAc (f2 gIx (fVar 0) (fVar 1)) fA0) [some (ti hs), some (iw a)] S = .ok (tu [.int (hs.getD a 0 / 2 % 5), .int (hs.getD a 0 / 2 / 5 / 256), .int (hs.getD a 0 / 2 / 5 % 256)]) S :=
    fcall_at (ws := [iw (hs.getD a 0)]) (ev_one (ev_f2 (ev_var rfl) (ev_var rfl) (g_ixT (ivs_get h)))) (k_read0 n) rfl rfl
  rw [← many_int]
  unfold b1
  exact ret_ok (ev_ret (ev_f2 (ev_f2 f1 rfl rfl) rfl rfl))
theorem cut_F {hs : List Int} {a m : Nat} {S : Store} : gSlA (ti hs) (some ((a : Int) + 1)) (some ((a : Int) + 1 + (m : Int))) S = some (ti ((hs.drop (a + 1)).take m), S) := by
  show some (tu (cutG (ivs hs) (some ((a : Int) + 1)) (some ((a : Int) + 1 + (m : Int)))), S) = _
  have c := sIx_cut (ivs hs) (a + 1) (a + 1 + m)
  rw [Nat.add_sub_cancel_left] at c
  have e : cutG (ivs hs) (some ((a : Int) + 1)) (some ((a : Int) + 1 + (m : Int))) = ivs ((hs.drop (a + 1)).take m) := by
    have e1 : ivs ((hs.drop (a + 1)).take m) = ((ivs hs).drop (a + 1)).take m := by unfold ivs; rw [List.map_take, List.map_drop]
    rw [e1, ← c]
    rfl
  rw [e]
theorem k_obj (n : Nat) {S : Store} {hs : List Int} {a : Nat} (h : a < hs.length) : callN (n + 2) 2 [ti hs, iw (a : Int)] S = .ok (tu [.int (hs.getD a 0 / 2 % 5), .int (hs.getD a 0 / 2 / 5 / 256), .tuple (ivs (F hs a))]) S := by
  show toR (b2 (callN (n + 1)) [some (ti hs), some (iw a), none, none, none] S) = _
  have f1 : fCall 1 (callN (n + 1) 0) (fAc (f2 gIx (fVar 0) (fVar 1)) fA0) [some (ti hs), some (iw a), none, none, none] S = .ok (tu [.int (hs.getD a 0 / 2 % 5), .int (hs.getD a 0 / 2 / 5 / 256), .int (hs.getD a 0 / 2 / 5 % 256)]) S :=
    fcall_at (ws := [iw (hs.getD a 0)]) (ev_one (ev_f2 (ev_var rfl) (ev_var rfl) (g_ixT (ivs_get h)))) (k_read0 n) rfl rfl
  have tp : gTupleA [ti (F hs a)] S = some (ti (F hs a), S) := rfl
  have sl : gSlA (ti hs) (some ((a : Int) + 1)) (some ((a : Int) + 1 + (hs.getD a 0 / 2 / 5 % 256))) S = some (ti (F hs a), S) := by
    rw [many_int]
    exact cut_F
  unfold b2
  refine ret_ok ((ev_seq (ρ1 := [some (ti hs), some (iw a), some (iw (hs.getD a 0 / 2 % 5)), some (iw (hs.getD a 0 / 2 / 5 / 256)), some (iw (hs.getD a 0 / 2 / 5 % 256))]) (S1 := S) ?_).trans ?_)
  · unfold fAsg
    rw [f1]
    rfl
  · refine ev_ret (ev_L (ws := [iw (hs.getD a 0 / 2 % 5), iw (hs.getD a 0 / 2 / 5 / 256), ti (F hs a)]) (ev_ac (ev_var rfl) (ev_ac (ev_var rfl) (ev_one ?_))) rfl)
    refine ev_L (ws := [ti (F hs a)]) (ev_one ?_) tp
    simp only [fSl, fSeq, fAsg, fVar, fC, f1, f2, fL, fAc, fA0, fTest, fAndT, fOrT, fNotT, fTru, fAndV, fOrV, fIfE, fIf, fRet, fAug, fDrop, fSl, fPart, fNoPart, intOf, gtName, R_ok, toS_ok, lift_some, boolW_ok, truR_b, List.getElem?_cons_zero, List.getElem?_cons_succ, List.set_cons_zero, List.set_cons_succ, g_addI, sl]
theorem k_lread (n : Nat) {S : Store} {hs : List Int} {a : Nat} (h : a < hs.length) (ho : hs.getD a 0 % 2 = 1) : callN (n + 1) 13 [ti hs, iw (a : Int)] S = .ok (tu [.int (hs.getD a 0 / 2 % 5), .int (hs.getD a 0 / 2 / 5 / 256), .tuple (ivs (F hs a))]) S := by
  show toR (b13 (callN n) [some (ti hs), some (iw a), none, none] S) = _
  have e1 : (hs.getD a 0 - 1) / 2 = hs.getD a 0 / 2 := by omega
  have e2 : hs.getD a 0 / 2 / 1280 = hs.getD a 0 / 2 / 5 / 256 := by omega
  have ix : gIx (ti hs) (iw (a : Int)) S = some (iw (hs.getD a 0), S) := g_ixT (ivs_get h)
  have sl : gSlA (ti hs) (some ((a : Int) + 1)) (some ((a : Int) + 1 + (hs.getD a 0 / 2 / 5 % 256))) S = some (ti (F hs a), S) := by
    rw [many_int]
    exact cut_F
  have d2 : gDiv (iw (hs.getD a 0 - 1)) (iw 2) S = some (iw (hs.getD a 0 / 2), S) := by rw [g_divI (by decide), e1]
  have d5 : gDiv (iw (hs.getD a 0 / 2)) (iw 5) S = some (iw (hs.getD a 0 / 2 / 5), S) := g_divI (by decide)
  have d1280 : gDiv (iw (hs.getD a 0 / 2)) (iw 1280) S = some (iw (hs.getD a 0 / 2 / 5 / 256), S) := by rw [g_divI (by decide), e2]
  have m5 : gMod (iw (hs.getD a 0 / 2)) (iw 5) S = some (iw (hs.getD a 0 / 2 % 5), S) := g_modI (by decide)
  have m256 : gMod (iw (hs.getD a 0 / 2 / 5)) (iw 256) S = some (iw (hs.getD a 0 / 2 / 5 % 256), S) := g_modI (by decide)
  have tp : gTupleA [ti (F hs a)] S = some (ti (F hs a), S) := rfl
  have tt : gTup [iw (hs.getD a 0 / 2 % 5), iw (hs.getD a 0 / 2 / 5 / 256), ti (F hs a)] S = some (tu [.int (hs.getD a 0 / 2 % 5), .int (hs.getD a 0 / 2 / 5 / 256), .tuple (ivs (F hs a))], S) := rfl
  unfold b13
  simp only [fSeq, fAsg, fVar, fC, f1, f2, fL, fAc, fA0, fTest, fAndT, fOrT, fNotT, fTru, fAndV, fOrV, fIfE, fIf, fRet, fAug, fDrop, fSl, fPart, fNoPart, intOf, gtName, R_ok, toS_ok, lift_some, boolW_ok, truR_b, List.getElem?_cons_zero, List.getElem?_cons_succ, List.set_cons_zero, List.set_cons_succ, fSl, ix, g_subI, d2, d5, m5, d1280, g_int, m256, g_addI, sl, tp, tt, toR]
theorem k_header (n : Nat) {S : Store} {s e m : Int} (hs : 0 ≤ s ∧ s < 5) (he : 0 ≤ e ∧ e ≤ 1000000) (hm : 0 ≤ m ∧ m < 1000) : callN (n + 1) 12 [iw s, iw e, iw m] S = .ok (iw (hdr s e m)) S := by
  show toR (b12 (callN n) [some (iw s), some (iw e), some (iw m)] S) = _
  have m1 : gMulA (iw 256) (iw e) S = some (iw (256 * e), S) := g_mul (by decide) (by omega)
  have m2 : gMulA (iw 5) (iw (256 * e + m)) S = some (iw (5 * (256 * e + m)), S) := g_mul (by decide) (by omega)
  have m3 : gMulA (iw 2) (iw (5 * (256 * e + m) + s)) S = some (iw (2 * (5 * (256 * e + m) + s)), S) := g_mul (by decide) (by omega)
  unfold b12
  simp only [fSeq, fAsg, fVar, fC, f1, f2, fL, fAc, fA0, fTest, fAndT, fOrT, fNotT, fTru, fAndV, fOrV, fIfE, fIf, fRet, fAug, fDrop, fSl, fPart, fNoPart, intOf, gtName, R_ok, toS_ok, lift_some, boolW_ok, truR_b, List.getElem?_cons_zero, List.getElem?_cons_succ, List.set_cons_zero, List.set_cons_succ, m1, m2, m3, g_addI, toR]
  rfl
theorem hdr_read {s e m : Int} (hs : 0 ≤ s ∧ s < 5) (he : 0 ≤ e) (hm : 0 ≤ m ∧ m < 256) : hdr s e m / 2 % 5 = s ∧ hdr s e m / 2 / 5 / 256 = e ∧ hdr s e m / 2 / 5 % 256 = m ∧ hdr s e m % 2 = 1 := by
  unfold hdr
  omega

/-! dicts of ivs -/
def kz (pl : List (Int × PyData)) : List (Key × PyData) := pl.map fun p => ((Sum.inl p.1 : Key), p.2)
theorem kz_app (p q : List (Int × PyData)) : kz (p ++ q) = kz p ++ kz q := List.map_append ..
theorem kz_len (p : List (Int × PyData)) : (kz p).length = p.length := List.length_map ..
theorem valD_kz (i : Int) : ∀ pl : List (Int × PyData), valD (kz pl) (.inl i) = (pl.find? fun p => decide (p.1 = i)).map (·.2)
  | [] => rfl
  | p :: r => by
    unfold valD kz
    rw [List.map_cons, List.find?_cons, List.find?_cons]
    by_cases h : p.1 = i
    · rw [decide_eq_true (show (Sum.inl p.1 : Key) = .inl i by rw [h]), decide_eq_true h]
      rfl
    · rw [decide_eq_false (fun e : (Sum.inl p.1 : Key) = .inl i => h (Sum.inl.inj e)), decide_eq_false h]
      exact valD_kz i r
theorem valD_no {i : Int} {pl : List (Int × PyData)} (h : i ∉ pl.map (·.1)) : valD (kz pl) (.inl i) = none := by
  rw [valD_kz, List.find?_eq_none.mpr]
  · rfl
  · intro p m e
    exact h (List.mem_map.mpr ⟨p, m, of_decide_eq_true e⟩)
theorem valD_yes {i : Int} {pl : List (Int × PyData)} (h : i ∈ pl.map (·.1)) : ∃ v, valD (kz pl) (.inl i) = some v := by
  obtain ⟨p, m, e⟩ := List.mem_map.mp h
  rw [valD_kz]
  cases q : pl.find? fun p => decide (p.1 = i) with
  | none => exact absurd (decide_eq_true e) (List.find?_eq_none.mp q p m)
  | some p => exact ⟨p.2, rfl⟩
theorem putD_kz {i : Int} {v : PyData} {pl : List (Int × PyData)} (h : i ∉ pl.map (·.1)) : putD (kz pl) (.inl i) v = kz (pl ++ [(i, v)]) := by
  unfold putD
  have : (kz pl).any (fun p => decide (p.1 = .inl i)) = false := by
    rw [List.any_eq_false]
    intro p m e
    obtain ⟨q, mq, rfl⟩ := List.mem_map.mp m
    have e' := of_decide_eq_true e
    exact h (List.mem_map.mpr ⟨q, mq, Sum.inl.inj e'⟩)
  rw [if_neg (by rw [this]; decide), kz_app]
  rfl
section
variable {S : Store} {l : Nat} {pl : List (Int × PyData)} {i : Int}
theorem as_dk (h : S[l]? = some (.dK (kz pl))) : asDk (.loc l) S = some (kz pl) := by simp only [asDk, h]
theorem d_in (h : S[l]? = some (.dK (kz pl))) : gInD (iw i) (.loc l) S = some (bt (decide (i ∈ pl.map (·.1))), S) := by
  unfold gInD gDin
  simp only [as_dk h, keyW]
  by_cases m : i ∈ pl.map (·.1)
  · obtain ⟨v, e⟩ := valD_yes m
    rw [e, decide_eq_true m]
    rfl
  · rw [valD_no m, decide_eq_false m]
    rfl
theorem d_notIn (h : S[l]? = some (.dK (kz pl))) : gNotInD (iw i) (.loc l) S = some (bt (!decide (i ∈ pl.map (·.1))), S) := by
  unfold gNotInD gNotInD0
  simp only [as_dk h, keyW]
  by_cases m : i ∈ pl.map (·.1)
  · obtain ⟨v, e⟩ := valD_yes m
    rw [e, decide_eq_true m]
    rfl
  · rw [valD_no m, decide_eq_false m]
    rfl
theorem d_get {v : PyData} (h : S[l]? = some (.dK (kz pl))) (hv : valD (kz pl) (.inl i) = some v) : gIxA (.loc l) (iw i) S = some (.d v, S) := by
  unfold gIxA orO2 gDget
  simp only [as_dk h, keyW, hv]
  rfl
theorem ev_dput {fv fd fk : FE} {ρ : Rho} {S1 S2 S3 : Store} {v : PyData} (ev : fv ρ S = .ok (.d v) S1) (ed : fd ρ S1 = .ok (.loc l) S2) (ek : fk ρ S2 = .ok (iw i) S3) (h : S3[l]? = some (.dK (kz pl))) (hz : pl.length < 1000000) (hn : i ∉ pl.map (·.1)) : fDput fv fd fk ρ S = .next ρ (S3.set l (.dK (kz (pl ++ [(i, v)])))) := by
  unfold fDput
  simp only [ev, toS_ok, ed, ek, keyW, h]
  rw [if_pos (show (kz pl).length < lim by rw [kz_len]; show _ < 16777216; omega), putD_kz hn]
end
/-! stores with a few more at the end -/
section
variable {S : Store} {a b c d e x : SO}
theorem at0 : (S ++ [a])[S.length]? = some a := push_at
theorem at20 : (S ++ [a, b])[S.length]? = some a := by rw [List.getElem?_append_right (Nat.le_refl _)]; simp
theorem at21 : (S ++ [a, b])[S.length + 1]? = some b := by rw [List.getElem?_append_right (by omega)]; simp
theorem set20 : (S ++ [a, b]).set S.length x = S ++ [x, b] := by rw [List.set_append_right _ _ (Nat.le_refl _)]; simp
theorem set21 : (S ++ [a, b]).set (S.length + 1) x = S ++ [a, x] := by rw [List.set_append_right _ _ (by omega)]; simp
theorem at30 : (S ++ [a, b, c])[S.length]? = some a := by rw [List.getElem?_append_right (Nat.le_refl _)]; simp
theorem at31 : (S ++ [a, b, c])[S.length + 1]? = some b := by rw [List.getElem?_append_right (by omega)]; simp
theorem at32 : (S ++ [a, b, c])[S.length + 2]? = some c := by rw [List.getElem?_append_right (by omega)]; simp
theorem set30 : (S ++ [a, b, c]).set S.length x = S ++ [x, b, c] := by rw [List.set_append_right _ _ (Nat.le_refl _)]; simp
theorem set31 : (S ++ [a, b, c]).set (S.length + 1) x = S ++ [a, x, c] := by rw [List.set_append_right _ _ (by omega)]; simp
theorem set32 : (S ++ [a, b, c]).set (S.length + 2) x = S ++ [a, b, x] := by rw [List.set_append_right _ _ (by omega)]; simp
theorem push2 : (S ++ [a]) ++ [b] = S ++ [a, b] := by simp
theorem push3 : (S ++ [a, b]) ++ [c] = S ++ [a, b, c] := by simp
end
section
variable {S : Store} {l : Nat} {xs ys : List PyData} {x : PyData}
theorem m_pop1 (h : S[l]? = some (.lst (xs ++ [x]))) : mPop (.loc l) [] S = some (.d x, S.set l (.lst xs)) := by
  unfold mPop
  simp [h]
theorem m_pop0 (h : S[l]? = some (.lst (x :: xs))) : mPopAt (.loc l) [iw 0] S = some (.d x, S.set l (.lst xs)) := by
  unfold mPopAt
  have e : seqIndex? 0 (xs.length + 1) = some 0 := by
    unfold seqIndex?
    simp
  simp [h, ixN, e]
theorem m_ext (h : S[l]? = some (.lst xs)) (hz : xs.length + ys.length ≤ 16777216) : mExtendA (.loc l) [.d (.list ys)] S = some (.d .none, S.set l (.lst (xs ++ ys))) := by
  unfold mExtendA mExtend
  simp only [h, asL]
  rw [if_pos (show xs.length + ys.length ≤ lim from hz)]
  rfl
theorem m_extT (h : S[l]? = some (.lst xs)) (hz : xs.length + ys.length ≤ 16777216) : mExtendA (.loc l) [.d (.tuple ys)] S = some (.d .none, S.set l (.lst (xs ++ ys))) := by
  unfold mExtendA mExtend mExtendT
  simp only [h, asL]
  rw [if_pos (show xs.length + ys.length ≤ lim from hz)]
  rfl
theorem m_app (h : S[l]? = some (.lst xs)) (hz : xs.length < 16777216) : mAppend (.loc l) [.d x] S = some (.d .none, S.set l (.lst (xs ++ [x]))) := by
  unfold mAppend
  simp only [h]
  rw [if_pos (show xs.length < lim from hz)]
theorem live_l (h : S[l]? = some (.lst xs)) : liveB (.loc l) S = true := by
  unfold liveB
  simp only [h]
theorem len_l (h : S[l]? = some (.lst xs)) : gLen [.loc l] S = some (iw xs.length, S) := by
  unfold gLen
  simp only [asSeq, h]
theorem ev_meth0 {g : GM} {o : FE} {ρ : Rho} {S1 S2 : Store} {w z : W} (eo : o ρ S = .ok w S1) (hl : liveB w S1 = true) (eg : g w [] S1 = some (z, S2)) : fMeth0 g o ρ S = .ok z S2 := by
  unfold fMeth0
  rw [eo, R_ok, if_pos hl, eg]
  rfl
end
end Q9
end VI
set_option Elab.async false
set_option linter.all false
set_option maxRecDepth 100000
namespace VI
open PySem PySem.Spec PyProof.Rows L2
namespace Q9
open C9

structure WF (hs : List Int) (A : List Nat) : Prop where
  nd : A.Nodup
  ok : ∀ a ∈ A, a + many (hs.getD a 0) < hs.length ∧ hs.getD a 0 % 2 = 1
  wd : ∀ a ∈ A, ∀ w ∈ F hs a, Wd A w
  sz : tot (F hs) A ≤ 5000
theorem WF.lt {hs : List Int} {A : List Nat} (W : WF hs A) {a : Nat} (h : a ∈ A) : a < hs.length := by have := (W.ok a h).1; omega
theorem WF.len {hs : List Int} {A : List Nat} (W : WF hs A) {a : Nat} (h : a ∈ A) : (F hs a).length = many (hs.getD a 0) := by
  have := (W.ok a h).1
  unfold F
  rw [List.length_take, List.length_drop]
  omega
theorem len_tot {G : Nat → List Int} : ∀ A : List Nat, A.length ≤ tot G A
  | [] => Nat.zero_le _
  | a :: A => by rw [tot_cons, List.length_cons]; have := len_tot (G := G) A; omega
theorem WF.al {hs : List Int} {A : List Nat} (W : WF hs A) : A.length ≤ 5000 := Nat.le_trans (len_tot A) W.sz
theorem last_of {α : Type} (t : List α) : t = [] ∨ ∃ r w, t = r ++ [w] := by
  rcases List.eq_nil_or_concat t with h | ⟨r, w, h⟩
  · exact .inl h
  · exact .inr ⟨r, w, by rw [h, List.concat_eq_append]⟩
def fnd (o : List Nat) : List (Int × PyData) := o.map fun (a : Nat) => ((a : Int), .bool true)
theorem fnd_app (o : List Nat) (a : Nat) : fnd (o ++ [a]) = fnd o ++ [((a : Int), .bool true)] := by simp [fnd]
theorem fnd_len (o : List Nat) : (fnd o).length = o.length := by simp [fnd]
theorem fnd_mem {o : List Nat} {a : Nat} : (a : Int) ∈ (fnd o).map (·.1) ↔ a ∈ o := by
  unfold fnd
  rw [List.map_map]
  constructor
  · intro h
    obtain ⟨b, m, e⟩ := List.mem_map.mp h
    have : b = a := by have e' : (b : Int) = (a : Int) := e; omega
    exact this ▸ m
  · intro h
    exact List.mem_map.mpr ⟨a, h, rfl⟩

/-! reached, by the program -/
noncomputable abbrev c3 : FT := (fTest (f2 gGt (fL gLen (fAc (fVar 3) fA0)) (fC (.int 0))))
noncomputable abbrev w3 (call : Calls) : FS := (fSeq (fAsg (fMeth0 mPop (fVar 3)) (gtName 4)) (fIf (fAndT (fTest (f2 gEq (f2 gMod (fVar 4) (fC (.int 2))) (fC (.int 0)))) (fTest (f2 gNotInD (f2 gDiv (fVar 4) (fC (.int 2))) (fVar 2)))) (fSeq (fDput (fC (.bool true)) (fVar 2) (f2 gDiv (fVar 4) (fC (.int 2)))) (fDrop (fMeth mExtendA (fVar 3) (fAc (f2 gIx (fCall 2 (call 2) (fAc (fVar 0) (fAc (f2 gDiv (fVar 4) (fC (.int 2))) fA0))) (fC (.int 2))) fA0)))) fNext))
section
variable {S : Store} {hs : List Int} {R : W} {found : List Nat} {t : List Int} {x : Option W}
theorem p_pop {D : SO} {w : Int} : fAsg (fMeth0 mPop (fVar 3)) (gtName 4) [some (ti hs), some R, some (.loc S.length), some (.loc (S.length + 1)), x] (S ++ [D, .lst (ivs (t ++ [w]))]) = .next [some (ti hs), some R, some (.loc S.length), some (.loc (S.length + 1)), some (iw w)] (S ++ [D, .lst (ivs t)]) := by
  refine ev_asg (ev_meth0 (ev_var rfl) (live_l at21) ?_)
  rw [m_pop1 (by rw [at21, ivs_app]; rfl), set21]
theorem p_skip (n : Nat) {w : Int} (h : w % 2 = 1 ∨ ∃ a ∈ found, w = 2 * (a : Int)) : w3 (callN (n + 2)) [some (ti hs), some R, some (.loc S.length), some (.loc (S.length + 1)), x] (S ++ [.dK (kz (fnd found)), .lst (ivs (t ++ [w]))]) = .next [some (ti hs), some R, some (.loc S.length), some (.loc (S.length + 1)), some (iw w)] (S ++ [.dK (kz (fnd found)), .lst (ivs t)]) := by
  refine (ev_seq p_pop).trans (ev_no (S1 := S ++ [.dK (kz (fnd found)), .lst (ivs t)]) ?_)
  have md : gMod (iw w) (iw 2) (S ++ [.dK (kz (fnd found)), .lst (ivs t)]) = some (iw (w % 2), S ++ [.dK (kz (fnd found)), .lst (ivs t)]) := g_modI (by decide)
  rcases h with h | ⟨a, m, rfl⟩
  · simp only [fSeq, fAsg, fVar, fC, f1, f2, fL, fAc, fA0, fTest, fAndT, fOrT, fNotT, fTru, fAndV, fOrV, fIfE, fIf, fRet, fAug, fDrop, fSl, fPart, fNoPart, intOf, gtName, R_ok, toS_ok, lift_some, boolW_ok, truR_b, List.getElem?_cons_zero, List.getElem?_cons_succ, List.set_cons_zero, List.set_cons_succ, md, g_eqI]
    rw [decide_eq_false (show ¬ (w % 2 = 0) by omega)]
    rfl
  · have dv : gDiv (iw (2 * (a : Int))) (iw 2) (S ++ [.dK (kz (fnd found)), .lst (ivs t)]) = some (iw (a : Int), S ++ [.dK (kz (fnd found)), .lst (ivs t)]) := by
      rw [g_divI (by decide), show 2 * (a : Int) / 2 = a by omega]
    simp only [fSeq, fAsg, fVar, fC, f1, f2, fL, fAc, fA0, fTest, fAndT, fOrT, fNotT, fTru, fAndV, fOrV, fIfE, fIf, fRet, fAug, fDrop, fSl, fPart, fNoPart, intOf, gtName, R_ok, toS_ok, lift_some, boolW_ok, truR_b, List.getElem?_cons_zero, List.getElem?_cons_succ, List.set_cons_zero, List.set_cons_succ, md, g_eqI]
    rw [decide_eq_true (show 2 * (a : Int) % 2 = 0 by omega)]
    simp only [if_true, fSeq, fAsg, fVar, fC, f1, f2, fL, fAc, fA0, fTest, fAndT, fOrT, fNotT, fTru, fAndV, fOrV, fIfE, fIf, fRet, fAug, fDrop, fSl, fPart, fNoPart, intOf, gtName, R_ok, toS_ok, lift_some, boolW_ok, truR_b, List.getElem?_cons_zero, List.getElem?_cons_succ, List.set_cons_zero, List.set_cons_succ, dv, d_notIn (at20 (a := .dK (kz (fnd found))))]
    rw [decide_eq_true (fnd_mem.mpr m)]
    rfl
theorem p_new (n : Nat) {a : Nat} (hn : a ∉ found) (ha : a < hs.length) (hz : found.length < 100000) (hz2 : t.length + (F hs a).length ≤ 1000000) :
    w3 (callN (n + 2)) [some (ti hs), some R, some (.loc S.length), some (.loc (S.length + 1)), x] (S ++ [.dK (kz (fnd found)), .lst (ivs (t ++ [2 * (a : Int)]))]) = .next [some (ti hs), some R, some (.loc S.length), some (.loc (S.length + 1)), some (iw (2 * (a : Int)))] (S ++ [.dK (kz (fnd (found ++ [a]))), .lst (ivs (t ++ F hs a))]) := by
  refine (ev_seq p_pop).trans ?_
  have md : gMod (iw (2 * (a : Int))) (iw 2) (S ++ [.dK (kz (fnd found)), .lst (ivs t)]) = some (iw (2 * (a : Int) % 2), S ++ [.dK (kz (fnd found)), .lst (ivs t)]) := g_modI (by decide)
  have dv : ∀ S', gDiv (iw (2 * (a : Int))) (iw 2) S' = some (iw (a : Int), S') := fun S' => by
    rw [g_divI (by decide), show 2 * (a : Int) / 2 = a by omega]
  refine (ev_yes (S1 := S ++ [.dK (kz (fnd found)), .lst (ivs t)]) ?_).trans ?_
  · simp only [fSeq, fAsg, fVar, fC, f1, f2, fL, fAc, fA0, fTest, fAndT, fOrT, fNotT, fTru, fAndV, fOrV, fIfE, fIf, fRet, fAug, fDrop, fSl, fPart, fNoPart, intOf, gtName, R_ok, toS_ok, lift_some, boolW_ok, truR_b, List.getElem?_cons_zero, List.getElem?_cons_succ, List.set_cons_zero, List.set_cons_succ, md, g_eqI]
    rw [decide_eq_true (show 2 * (a : Int) % 2 = 0 by omega)]
    simp only [if_true, fSeq, fAsg, fVar, fC, f1, f2, fL, fAc, fA0, fTest, fAndT, fOrT, fNotT, fTru, fAndV, fOrV, fIfE, fIf, fRet, fAug, fDrop, fSl, fPart, fNoPart, intOf, gtName, R_ok, toS_ok, lift_some, boolW_ok, truR_b, List.getElem?_cons_zero, List.getElem?_cons_succ, List.set_cons_zero, List.set_cons_succ, dv, d_notIn (at20 (a := .dK (kz (fnd found))))]
    rw [decide_eq_false (fun m => hn (fnd_mem.mp m))]
    rfl
  · have pt : fDput (fC (.bool true)) (fVar 2) (f2 gDiv (fVar 4) (fC (.int 2))) [some (ti hs), some R, some (.loc S.length), some (.loc (S.length + 1)), some (iw (2 * (a : Int)))] (S ++ [.dK (kz (fnd found)), .lst (ivs t)]) = .next [some (ti hs), some R, some (.loc S.length), some (.loc (S.length + 1)), some (iw (2 * (a : Int)))] (S ++ [.dK (kz (fnd (found ++ [a]))), .lst (ivs t)]) := by
      rw [ev_dput (i := (a : Int)) (v := .bool true) (pl := fnd found) (l := S.length) rfl (ev_var rfl) (ev_f2 (ev_var rfl) rfl (dv _)) at20 (by rw [fnd_len]; omega) (fun m => hn (fnd_mem.mp m)), set20, fnd_app]
    refine (ev_seq pt).trans ?_
    have f2_ : fCall 2 (callN (n + 2) 2) (fAc (fVar 0) (fAc (f2 gDiv (fVar 4) (fC (.int 2))) fA0)) [some (ti hs), some R, some (.loc S.length), some (.loc (S.length + 1)), some (iw (2 * (a : Int)))] (S ++ [.dK (kz (fnd (found ++ [a]))), .lst (ivs t)]) = .ok (tu [.int (hs.getD a 0 / 2 % 5), .int (hs.getD a 0 / 2 / 5 / 256), .tuple (ivs (F hs a))]) (S ++ [.dK (kz (fnd (found ++ [a]))), .lst (ivs t)]) :=
      fcall_at (ws := [ti hs, iw (a : Int)]) (ev_ac (ev_var rfl) (ev_one (ev_f2 (ev_var rfl) rfl (dv _)))) (k_obj n ha) rfl rfl
    refine ev_drop (x := .d .none) ?_
    refine ev_meth (ev_var rfl) (live_l at21) (ev_one (ev_f2 f2_ rfl rfl)) ?_
    rw [m_extT at21 (by rw [ivs_len, ivs_len]; omega), set21, ivs_app]
end
theorem p_loop (n : Nat) {S : Store} {hs : List Int} {A : List Nat} {ws : List Int} {R : W} (W : WF hs A) : ∀ (m : Nat) (found : List Nat) (todo : List Int) (x : Option VI.W), DI (F hs) A ws found todo → tot (F hs) (rest A found) + todo.length < m → todo.length + tot (F hs) (rest A found) ≤ 100000 →
    ∃ found' x', DI (F hs) A ws found' [] ∧ whileL c3 (w3 (callN (n + 2))) m [some (ti hs), some R, some (.loc S.length), some (.loc (S.length + 1)), x] (S ++ [.dK (kz (fnd found)), .lst (ivs todo)]) = .next [some (ti hs), some R, some (.loc S.length), some (.loc (S.length + 1)), x'] (S ++ [.dK (kz (fnd found')), .lst []])
  | 0, found, todo, x, h, hm, hz => absurd hm (by omega)
  | m + 1, found, todo, x, h, hm, hz => by
    have ct : c3 [some (ti hs), some R, some (.loc S.length), some (.loc (S.length + 1)), x] (S ++ [.dK (kz (fnd found)), .lst (ivs todo)]) = .ok (decide (0 < todo.length)) (S ++ [.dK (kz (fnd found)), .lst (ivs todo)]) := by
      simp only [fSeq, fAsg, fVar, fC, f1, f2, fL, fAc, fA0, fTest, fAndT, fOrT, fNotT, fTru, fAndV, fOrV, fIfE, fIf, fRet, fAug, fDrop, fSl, fPart, fNoPart, intOf, gtName, R_ok, toS_ok, lift_some, boolW_ok, truR_b, List.getElem?_cons_zero, List.getElem?_cons_succ, List.set_cons_zero, List.set_cons_succ, len_l at21, g_gtI, ivs_len, Int.natCast_pos]
    rw [while_step, ct, toS_ok]
    rcases last_of todo with e | ⟨t, w, e⟩
    · subst e
      exact ⟨found, x, h, rfl⟩
    · subst e
      rw [List.length_append, List.length_singleton] at hm hz
      rw [decide_eq_true (by rw [List.length_append, List.length_singleton]; omega), if_pos rfl]
      by_cases hw : w % 2 = 1 ∨ ∃ a ∈ found, w = 2 * (a : Int)
      · rw [p_skip n hw]
        exact p_loop n W m found t _ (h.skip hw) (by omega) (by omega)
      · have hwd := h.wd w (by simp)
        rcases hwd with z | ⟨a, ma, rfl⟩
        · exact absurd (.inl z) hw
        · have hn : a ∉ found := fun q => hw (.inr ⟨a, q, rfl⟩)
          obtain ⟨haA, h'⟩ := h.new hn W.wd (L := F hs a) (fun _ q => q) (fun _ q => q)
          have ht := tot_rest (F := F hs) hn W.nd haA
          rw [p_new n hn (W.lt haA) (by have := sub_len h.nd h.sub; have := W.al; omega) (by omega)]
          exact p_loop n W m (found ++ [a]) (t ++ F hs a) _ h' (by rw [List.length_append]; omega) (by rw [List.length_append]; omega)
theorem intKeys_fnd : ∀ o : List Nat, intKeys (kz (fnd o)) = some (o.map fun (a : Nat) => (a : Int))
  | [] => rfl
  | a :: o => by
    show (intKeys (kz (fnd o))).map _ = _
    rw [intKeys_fnd o]
    rfl
/-- the reachable ones, ascending -/
def srt (o : List Nat) : List Int := srtI (o.map fun (a : Nat) => (a : Int))
theorem srt_perm {o p : List Nat} (h : o.Perm p) : srt o = srt p := by
  unfold srt
  have q := h.map fun (a : Nat) => (a : Int)
  have s1 : (srtI (o.map fun (a : Nat) => (a : Int))).Perm (p.map fun (a : Nat) => (a : Int)) := (List.mergeSort_perm _ _).trans q
  refine srtI_eq s1 ?_
  have := List.pairwise_mergeSort (le := fun a b : Int => decide (a ≤ b)) (fun a b c h1 h2 => by rw [decide_eq_true_eq] at *; omega) (fun a b => by rw [Bool.or_eq_true, decide_eq_true_eq, decide_eq_true_eq]; omega) (o.map fun (a : Nat) => (a : Int))
  exact this.imp fun h => of_decide_eq_true h
theorem k_reached (n : Nat) {S : Store} {hs ws : List Int} {A o : List Nat} {q : Bool} (W : WF hs A) (hw : ∀ w ∈ ws, Wd A w) (hz : ws.length ≤ 1000) (O : OrdI (F hs) A ws o) :
    ∃ ex, callN (n + 3) 3 [ti hs, if q then li ws else ti ws] S = .ok (ti (srt o)) (S ++ ex) := by
  have gl : gListL [if q then li ws else ti ws] (S ++ [.dK []]) = some (.loc (S.length + 1), S ++ [.dK [], .lst (ivs ws)]) := by
    have e : ∀ u : VI.W, asSeq u (S ++ [.dK []]) = some (ivs ws) → gListL [u] (S ++ [.dK []]) = some (.loc (S.length + 1), S ++ [.dK [], .lst (ivs ws)]) := fun u e => by
      unfold gListL
      simp only [e, List.length_append, push2]
      rfl
    cases q
    · exact e _ rfl
    · exact e _ rfl
  obtain ⟨f', x', D, lp⟩ := p_loop n (S := S) (R := if q then li ws else ti ws) W 1000000 [] ws none (DI.start hw (fun _ m => m) (fun _ m => m)) (by have := tot_rest_le (F := F hs) (found := []) (A := A); have := W.sz; omega) (by have := tot_rest_le (F := F hs) (found := []) (A := A); have := W.sz; omega)
  have hp : f'.Perm o := perm_of D.nd O.nd fun a => by rw [D.done, O.mem]
  have so : gSortX [.loc S.length] (S ++ [.dK (kz (fnd f')), .lst []]) = some (li (srt o), S ++ [.dK (kz (fnd f')), .lst []]) := by
    have e1 : gSortA [.loc S.length] (S ++ [.dK (kz (fnd f')), .lst []]) = none := by
      unfold gSortA gSorted gSortT
      simp only [asLW, at20]
    have e2 : gSortI [.loc S.length] (S ++ [.dK (kz (fnd f')), .lst []]) = none := by
      unfold gSortI
      simp only [asLst, asSeq, at20]
    have e3 : gSortDk [.loc S.length] (S ++ [.dK (kz (fnd f')), .lst []]) = some (li (srt o), S ++ [.dK (kz (fnd f')), .lst []]) := by
      unfold gSortDk
      simp only [as_dk at20, intKeys_fnd]
      rw [← srt_perm hp]
      rfl
    unfold gSortX
    rw [e1, e2, e3]
    rfl
  have tp : gTupleA [li (srt o)] (S ++ [.dK (kz (fnd f')), .lst []]) = some (ti (srt o), S ++ [.dK (kz (fnd f')), .lst []]) := rfl
  refine ⟨[.dK (kz (fnd f')), .lst []], ?_⟩
  show toR (b3 (callN (n + 2)) [some (ti hs), some (if q then li ws else ti ws), none, none, none] S) = _
  unfold b3
  refine ret_ok ((ev_seq (p := fAsg fDnew (gtName 2)) (ρ1 := [some (ti hs), some (if q then li ws else ti ws), some (.loc S.length), none, none]) (S1 := S ++ [.dK []]) rfl).trans ?_)
  refine (ev_seq (ρ1 := [some (ti hs), some (if q then li ws else ti ws), some (.loc S.length), some (.loc (S.length + 1)), none]) (S1 := S ++ [.dK [], .lst (ivs ws)]) (ev_asg (ev_L (ev_one (ev_var rfl)) gl))).trans ?_
  refine (ev_seq lp).trans ?_
  exact ev_ret (ev_L (ev_one (ev_L (ev_one (ev_var rfl)) so)) tp)
/-- a call whose own live things end -/
theorem ev_ext {n : Nat} {g : List W → Store → R W} {fa : FA} {ρ : Rho} {S S1 ex : Store} {ws : List W} {x : PyData} (ea : fa ρ S = .ok ws S1) (eg : g ws S1 = .ok (.d x) (S1 ++ ex)) (hn : ws.length = n := by rfl) : fCall n g fa ρ S = .ok (.d x) S1 := by
  rw [ev_cd ea eg hn, List.take_left]
end Q9
end VI
set_option Elab.async false
set_option linter.all false
set_option maxRecDepth 100000
namespace VI
open PySem PySem.Spec PyProof.Rows L2
namespace Q9
open C9

/-! sizes, summed -/
theorem sum_perm {a b : List Int} (h : a.Perm b) : a.sum = b.sum := by
  induction h with
  | nil => rfl
  | cons x _ ih => rw [List.sum_cons, List.sum_cons, ih]
  | swap x y l => simp only [List.sum_cons]; omega
  | trans _ _ h1 h2 => exact h1.trans h2
theorem srt_mem {o : List Nat} {i : Int} (h : i ∈ srt o) : ∃ a ∈ o, i = (a : Int) := by
  have := (List.mergeSort_perm (o.map fun (a : Nat) => (a : Int)) (fun a b => decide (a ≤ b))).mem_iff.mp h
  obtain ⟨a, m, e⟩ := List.mem_map.mp this
  exact ⟨a, m, e.symm⟩
theorem srt_p (o : List Nat) : (srt o).Perm (o.map fun (a : Nat) => (a : Int)) := List.mergeSort_perm _ _
theorem srt_len (o : List Nat) : (srt o).length = o.length := by rw [(srt_p o).length_eq, List.length_map]
def szI (hs : List Int) (i : Int) : Int := (many (hs.getD i.toNat 0) : Int) + 1
theorem sum_szI {hs : List Int} {A : List Nat} (W : WF hs A) : ∀ {o : List Nat}, (∀ a ∈ o, a ∈ A) → ((o.map fun (a : Nat) => (a : Int)).map (szI hs)).sum = (tot (F hs) o : Int)
  | [], _ => rfl
  | a :: o, h => by
    have ih := sum_szI W (o := o) fun b m => h b (List.mem_cons_of_mem _ m)
    have e := W.len (h a (by simp))
    rw [List.map_cons, List.map_cons, List.sum_cons, ih, tot_cons, e]
    unfold szI
    rw [Int.toNat_natCast]
    omega
theorem intsD_ivs (xs : List Int) : intsD (ivs xs) = some xs := intsD_map xs
theorem g_sum (xs : List Int) {S : Store} : gSum [li xs] S = some (iw xs.sum, S) := by
  unfold gSum
  simp only [show asLst (li xs) S = some (ivs xs) from rfl, intsD_ivs]
theorem sum_srt {hs : List Int} {A o : List Nat} (W : WF hs A) (ho : ∀ a ∈ o, a ∈ A) : ((srt o).map (szI hs)).sum = (tot (F hs) o : Int) := by
  rw [sum_perm ((srt_p o).map (szI hs)), sum_szI W ho]
theorem k_rwords (n : Nat) {S : Store} {hs ws : List Int} {A o : List Nat} {q : Bool} (W : WF hs A) (hw : ∀ w ∈ ws, Wd A w) (hz : ws.length ≤ 1000) (O : OrdI (F hs) A ws o) :
    callN (n + 4) 4 [ti hs, if q then li ws else ti ws] S = .ok (iw (tot (F hs) o : Int)) S := by
  obtain ⟨ex, e3⟩ := k_reached n (S := S) (q := q) W hw hz O
  have f3 : fCall 2 (callN (n + 3) 3) (fAc (fVar 0) (fAc (fVar 1) fA0)) [some (ti hs), some (if q then li ws else ti ws), none] S = .ok (ti (srt o)) S := ev_ext (ws := [ti hs, if q then li ws else ti ws]) (ev_ac (ev_var rfl) (ev_one (ev_var rfl))) e3
  show toR (b4 (callN (n + 3)) [some (ti hs), some (if q then li ws else ti ws), none] S) = _
  obtain ⟨ok, hok, hit⟩ := it_pure (a := fCall 2 (callN (n + 3) 3) (fAc (fVar 0) (fAc (fVar 1) fA0))) (ρ := [some (ti hs), some (if q then li ws else ti ws), none]) (S := S) f3 (.inr rfl)
  have lc := flc_all (g := gtName 2) (el := fCall 2 (callN (n + 3) 1) (fAc (fVar 0) (fAc (fVar 2) fA0))) (vs := [2]) (f := fun (w : VI.W) => match w with | VI.W.d (.int i) => PyData.int (szI hs i) | _ => PyData.none) hit (by rw [List.length_map, ivs_len, srt_len]; have := sub_len O.nd O.sub; have := W.al; omega) (fun S' _ => hok S') fun w m S' s => by
    obtain ⟨d, md, rfl⟩ := List.mem_map.mp m
    obtain ⟨i, mi, rfl⟩ := List.mem_map.mp md
    obtain ⟨a, ma, rfl⟩ := srt_mem mi
    refine ⟨[some (ti hs), some (if q then li ws else ti ws), some (iw (a : Int))], rfl, ?_⟩
    have k := k_size (n + 1) (S := S') (W.lt (O.sub a ma))
    refine fcall_at (ws := [ti hs, iw (a : Int)]) (ev_ac (ev_var rfl) (ev_one (ev_var rfl))) ?_ rfl rfl
    rw [k]
    show _ = R.ok (iw (szI hs (a : Int))) S'
    unfold szI
    rw [Int.toNat_natCast]
  have e : ((ivs (srt o)).map VI.W.d).map (fun (w : VI.W) => match w with | VI.W.d (.int i) => PyData.int (szI hs i) | _ => PyData.none) = ivs ((srt o).map (szI hs)) := by
    unfold ivs
    rw [List.map_map, List.map_map, List.map_map]
    rfl
  rw [e] at lc
  unfold b4
  exact ret_ok (ev_ret (ev_L (ev_one lc) (by rw [g_sum, sum_srt W O.sub])))

/-! reached, by the law -/
theorem lay_ivs : ∀ xs : List Int, PyData.canLayAll0 (ivs xs) = true
  | [] => rfl
  | x :: xs => by
    show (PyData.canLay0 (.int x) && PyData.canLayAll0 (ivs xs)) = true
    rw [lay_ivs xs]
    rfl
theorem dep_ivs : ∀ xs : List Int, PyData.depthAll (ivs xs) = 0
  | [] => rfl
  | x :: xs => by
    show max (PyData.depth (.int x)) (PyData.depthAll (ivs xs)) = 0
    rw [dep_ivs xs]
    rfl
theorem shaped_li (xs : List Int) : SeqAt.shaped (.list (ivs xs)) = true := by
  unfold SeqAt.shaped
  have e1 : PyData.canLay0 (.list (ivs xs)) = true := lay_ivs xs
  have e2 : PyData.depth (.list (ivs xs)) = 1 := by
    show PyData.depthAll (ivs xs) + 1 = 1
    rw [dep_ivs]
  rw [e1, e2]
  rfl
theorem ne_nil {S : Store} {l : Nat} {t : List Int} (h : S[l]? = some (.lst (ivs t))) : gNe (.loc l) (.d (.list [])) S = some (bt (!decide (t = [])), S) := by
  have e1 : gNeS (.loc l) (.d (.list [])) S = none := rfl
  unfold gNe
  rw [e1]
  unfold gNeD
  have e2 : asD (.loc l) S = some (.list (ivs t)) := by simp only [asD, h]
  have e3 : asD (.d (.list [])) S = some (.list []) := rfl
  rw [e2, e3]
  show (if SeqAt.shaped (.list (ivs t)) = true ∧ SeqAt.shaped (.list []) = true then _ else _) = _
  rw [if_pos ⟨shaped_li t, shaped_li []⟩]
  cases t with
  | nil => rfl
  | cons x t => rfl
theorem any_ivs (a : Int) : ∀ xs : List Int, (ivs xs).any (fun d => PyData.eqv d (.int a)) = decide (a ∈ xs)
  | [] => rfl
  | x :: xs => by
    show (PyData.eqv (.int x) (.int a) || (ivs xs).any _) = _
    rw [any_ivs a xs]
    have e : PyData.eqv (.int x) (.int a) = decide (x = a) := by
      show (x == a) = _
      rfl
    rw [e]
    by_cases h : x = a
    · subst h; simp
    · have h' : a ≠ x := fun e => h e.symm
      simp [h, h']
theorem flat_ivs : ∀ xs : List Int, (ivs xs).all flatD = true
  | [] => rfl
  | x :: xs => by
    show (flatD (.int x) && (ivs xs).all flatD) = true
    rw [flat_ivs xs]
    rfl
theorem g_notIn {S : Store} {l : Nat} {xs : List Int} {a : Int} (h : S[l]? = some (.lst (ivs xs))) : gIn true (iw a) (.loc l) S = some (bt (!decide (a ∈ xs)), S) := by
  unfold gIn
  have e : asSeq (.loc l) S = some (ivs xs) := by simp only [asSeq, h]
  simp only [e]
  rw [if_pos ⟨rfl, flat_ivs xs⟩, if_pos trivial, any_ivs]
def ev2 (w : Int) : Bool := decide (w % 2 = 0)
/-- the even ones of a list -/
theorem evens {ρ : Rho} {S : Store} {xs : List Int} {i : Nat} {a : FE} {y : PyData} (ea : a ρ S = .ok (.d y) S) (hy : y = .list (ivs xs) ∨ y = .tuple (ivs xs)) (hi : i < ρ.length) (hz : xs.length < 1000000) :
    fLc (fItS a) (gtName i) (fTest (f2 gEq (f2 gMod (fL gIntA (fAc (fVar i) fA0)) (fC (.int 2))) (fC (.int 0)))) (fVar i) [i] ρ S = .ok (li (xs.filter ev2)) S ∧
    fLcL (fItS a) (gtName i) (fTest (f2 gEq (f2 gMod (fL gIntA (fAc (fVar i) fA0)) (fC (.int 2))) (fC (.int 0)))) (fVar i) [i] ρ S = .ok (.loc S.length) (S ++ [.lst (ivs (xs.filter ev2))]) := by
  obtain ⟨ok, hok, hit⟩ := it_pure (a := a) (ρ := ρ) (S := S) (xs := ivs xs) ea hy
  have hel : ∀ w ∈ (ivs xs).map W.d, ∀ S', Same S S' → ∃ ρ1, gtName i w (wipeR ρ [i]) = some ρ1 ∧ fTest (f2 gEq (f2 gMod (fL gIntA (fAc (fVar i) fA0)) (fC (.int 2))) (fC (.int 0))) ρ1 S' = .ok ((fun w => match w with | .d (.int j) => ev2 j | _ => false) w) S' ∧ ((fun w => match w with | .d (.int j) => ev2 j | _ => false) w = true → fVar i ρ1 S' = .ok (.d ((fun w => match w with | .d x => x | _ => PyData.none) w)) S') := fun w m S' s => by
    obtain ⟨d, md, rfl⟩ := List.mem_map.mp m
    obtain ⟨j, mj, rfl⟩ := List.mem_map.mp md
    have ev : fVar i ((wipeR ρ [i]).set i (some (iw j))) S' = .ok (iw j) S' := ev_var (List.getElem?_set_self (by show i < (ρ.set i none).length; rw [List.length_set]; exact hi))
    refine ⟨(wipeR ρ [i]).set i (some (iw j)), rfl, ?_, fun _ => ev⟩
    refine ev_test (ev_f2 (ev_f2 (ev_L (ev_one ev) g_int) rfl (g_modI (by decide))) rfl g_eqI)
  have e : (((ivs xs).map W.d).filter (fun w => match w with | .d (.int j) => ev2 j | _ => false)).map (fun w => match w with | .d x => x | _ => PyData.none) = ivs (xs.filter ev2) := by
    clear hel hit hy hz ea
    induction xs with
    | nil => rfl
    | cons x xs ih =>
      show ((W.d (.int x) :: (ivs xs).map W.d).filter _).map _ = _
      rw [List.filter_cons, List.filter_cons]
      by_cases hx : ev2 x = true
      · rw [if_pos hx, if_pos hx, List.map_cons, ih]
        rfl
      · rw [if_neg hx, if_neg hx, ih]
  have h1 := flc_gen (g := gtName i) (vs := [i]) hit (by rw [List.length_map, ivs_len]; exact hz) (fun S' _ => hok S') hel
  have h2 := flcL_gen (g := gtName i) (vs := [i]) hit (by rw [List.length_map, ivs_len]; exact hz) (fun S' _ => hok S') hel
  rw [e] at h1 h2
  exact ⟨h1, h2⟩
noncomputable abbrev c14 : FT := (fTest (f2 gNe (fVar 3) (fL gLst fA0)))
noncomputable abbrev w14 (call : Calls) : FS := (fSeq (fAsg (f2 gDiv (fL gIntA (fAc (fMeth0 mPop (fVar 3)) fA0)) (fC (.int 2))) (gtName 5)) (fIf (fTest (f2 (gIn true) (fVar 5) (fVar 2))) (fSeq (fDrop (fMeth mAppend (fVar 2) (fAc (fVar 5) fA0))) (fDrop (fMeth mExtendA (fVar 3) (fAc (fLc (fItS (f2 gIx (fCall 2 (call 13) (fAc (fVar 0) (fAc (fVar 5) fA0))) (fC (.int 2)))) (gtName 4) (fTest (f2 gEq (f2 gMod (fL gIntA (fAc (fVar 4) fA0)) (fC (.int 2))) (fC (.int 0)))) (fVar 4) [4]) fA0)))) fNext))
abbrev nat (o : List Nat) : List Int := o.map fun (a : Nat) => (a : Int)
theorem nat_mem {o : List Nat} {a : Nat} : (a : Int) ∈ nat o ↔ a ∈ o := by
  constructor
  · intro h
    obtain ⟨b, m, e⟩ := List.mem_map.mp h
    have : b = a := by omega
    exact this ▸ m
  · intro h
    exact List.mem_map.mpr ⟨a, h, rfl⟩
section
variable {S : Store} {hs : List Int} {R : W} {found : List Nat} {t : List Int} {x : Option W}
theorem l_pop {D : SO} {a : Nat} : fAsg (f2 gDiv (fL gIntA (fAc (fMeth0 mPop (fVar 3)) fA0)) (fC (.int 2))) (gtName 5) [some (ti hs), some R, some (.loc S.length), some (.loc (S.length + 1)), none, x] (S ++ [D, .lst (ivs (t ++ [2 * (a : Int)]))]) = .next [some (ti hs), some R, some (.loc S.length), some (.loc (S.length + 1)), none, some (iw (a : Int))] (S ++ [D, .lst (ivs t)]) := by
  refine ev_asg (ev_f2 (x := iw (2 * (a : Int))) (S1 := S ++ [D, .lst (ivs t)]) (ev_L (ev_one (ev_meth0 (ev_var rfl) (live_l at21) ?_)) g_int) rfl ?_)
  · rw [m_pop1 (by rw [at21, ivs_app]; rfl), set21]
  · rw [g_divI (by decide), show 2 * (a : Int) / 2 = a by omega]
theorem l_skip (n : Nat) {a : Nat} (h : a ∈ found) : w14 (callN (n + 1)) [some (ti hs), some R, some (.loc S.length), some (.loc (S.length + 1)), none, x] (S ++ [.lst (ivs (nat found)), .lst (ivs (t ++ [2 * (a : Int)]))]) = .next [some (ti hs), some R, some (.loc S.length), some (.loc (S.length + 1)), none, some (iw (a : Int))] (S ++ [.lst (ivs (nat found)), .lst (ivs t)]) := by
  refine (ev_seq l_pop).trans (ev_no (S1 := S ++ [.lst (ivs (nat found)), .lst (ivs t)]) ?_)
  refine ev_test (ev_f2 (ev_var rfl) (ev_var rfl) ?_)
  rw [g_notIn at20, decide_eq_true (nat_mem.mpr h)]
  rfl
theorem l_new (n : Nat) {a : Nat} (hn : a ∉ found) (ha : a < hs.length) (ho : hs.getD a 0 % 2 = 1) (hz : found.length < 100000) (hz2 : t.length + (F hs a).length < 1000000) :
    w14 (callN (n + 1)) [some (ti hs), some R, some (.loc S.length), some (.loc (S.length + 1)), none, x] (S ++ [.lst (ivs (nat found)), .lst (ivs (t ++ [2 * (a : Int)]))]) = .next [some (ti hs), some R, some (.loc S.length), some (.loc (S.length + 1)), none, some (iw (a : Int))] (S ++ [.lst (ivs (nat (found ++ [a]))), .lst (ivs (t ++ (F hs a).filter ev2))]) := by
  refine (ev_seq l_pop).trans ((ev_yes (S1 := S ++ [.lst (ivs (nat found)), .lst (ivs t)]) ?_).trans ?_)
  · refine ev_test (ev_f2 (ev_var rfl) (ev_var rfl) ?_)
    rw [g_notIn at20, decide_eq_false (fun m => hn (nat_mem.mp m))]
    rfl
  · refine (ev_seq (ρ1 := [some (ti hs), some R, some (.loc S.length), some (.loc (S.length + 1)), none, some (iw (a : Int))]) (S1 := S ++ [.lst (ivs (nat (found ++ [a]))), .lst (ivs t)]) ?_).trans ?_
    · refine ev_drop (x := .d .none) (ev_meth (ev_var rfl) (live_l at20) (ev_one (ev_var rfl)) ?_)
      rw [m_app at20 (by rw [ivs_len, List.length_map]; omega), set20]
      show some (_, S ++ [SO.lst (ivs (nat found) ++ [.int (a : Int)]), _]) = _
      unfold nat ivs
      simp
    · have f13 : fCall 2 (callN (n + 1) 13) (fAc (fVar 0) (fAc (fVar 5) fA0)) [some (ti hs), some R, some (.loc S.length), some (.loc (S.length + 1)), none, some (iw (a : Int))] (S ++ [.lst (ivs (nat (found ++ [a]))), .lst (ivs t)]) = .ok (tu [.int (hs.getD a 0 / 2 % 5), .int (hs.getD a 0 / 2 / 5 / 256), .tuple (ivs (F hs a))]) (S ++ [.lst (ivs (nat (found ++ [a]))), .lst (ivs t)]) :=
        fcall_at (ws := [ti hs, iw (a : Int)]) (ev_ac (ev_var rfl) (ev_one (ev_var rfl))) (k_lread n ha ho) rfl rfl
      have lc := (evens (a := f2 gIx (fCall 2 (callN (n + 1) 13) (fAc (fVar 0) (fAc (fVar 5) fA0))) (fC (.int 2))) (i := 4) (xs := F hs a) (ev_f2 f13 rfl rfl) (.inr rfl) (by show 4 < 6; decide) (by omega)).1
      refine ev_drop (x := .d .none) (ev_meth (ev_var rfl) (live_l at21) (ev_one lc) ?_)
      rw [m_ext at21 (by rw [ivs_len, ivs_len]; have := List.length_filter_le ev2 (F hs a); omega), set21, ivs_app]
end
theorem l_loop (n : Nat) {S : Store} {hs : List Int} {A : List Nat} {ws : List Int} {R : W} (W : WF hs A) : ∀ (m : Nat) (found : List Nat) (todo : List Int) (x : Option VI.W), DI (F hs) A ws found todo → (∀ w ∈ todo, w % 2 = 0) → tot (F hs) (rest A found) + todo.length < m → todo.length + tot (F hs) (rest A found) ≤ 100000 →
    ∃ found' x', DI (F hs) A ws found' [] ∧ whileL c14 (w14 (callN (n + 1))) m [some (ti hs), some R, some (.loc S.length), some (.loc (S.length + 1)), none, x] (S ++ [.lst (ivs (nat found)), .lst (ivs todo)]) = .next [some (ti hs), some R, some (.loc S.length), some (.loc (S.length + 1)), none, x'] (S ++ [.lst (ivs (nat found')), .lst []])
  | 0, found, todo, x, h, he, hm, hz => absurd hm (by omega)
  | m + 1, found, todo, x, h, he, hm, hz => by
    have ct : c14 [some (ti hs), some R, some (.loc S.length), some (.loc (S.length + 1)), none, x] (S ++ [.lst (ivs (nat found)), .lst (ivs todo)]) = .ok (!decide (todo = [])) (S ++ [.lst (ivs (nat found)), .lst (ivs todo)]) :=
      ev_test (ev_f2 (ev_var rfl) rfl (ne_nil at21))
    rw [while_step, ct, toS_ok]
    rcases last_of todo with e | ⟨t, w, e⟩
    · subst e
      exact ⟨found, x, h, rfl⟩
    · subst e
      rw [List.length_append, List.length_singleton] at hm hz
      rw [decide_eq_false (by simp)]
      simp only [Bool.not_false, if_true]
      have he' : ∀ w ∈ t, w % 2 = 0 := fun v m => he v (List.mem_append_left _ m)
      have hw := he w (by simp)
      rcases h.wd w (by simp) with z | ⟨a, ma, rfl⟩
      · omega
      · by_cases hn : a ∈ found
        · rw [l_skip n hn]
          exact l_loop n W m found t _ (h.skip (.inr ⟨a, hn, rfl⟩)) he' (by omega) (by omega)
        · obtain ⟨haA, h'⟩ := h.new hn W.wd (L := (F hs a).filter ev2) (fun _ q => (List.mem_filter.mp q).1) (fun b q => List.mem_filter.mpr ⟨q, decide_eq_true (by omega)⟩)
          have ht := tot_rest (F := F hs) hn W.nd haA
          have hl := List.length_filter_le ev2 (F hs a)
          rw [l_new n hn (W.lt haA) (W.ok a haA).2 (by have := sub_len h.nd h.sub; have := W.al; omega) (by omega)]
          refine l_loop n W m (found ++ [a]) (t ++ (F hs a).filter ev2) _ h' (fun v m => ?_) (by rw [List.length_append]; omega) (by rw [List.length_append]; omega)
          rcases List.mem_append.mp m with m | m
          · exact he' v m
          · exact of_decide_eq_true (List.mem_filter.mp m).2
theorem k_lreached (n : Nat) {S : Store} {hs ws : List Int} {A o : List Nat} (W : WF hs A) (hw : ∀ w ∈ ws, Wd A w) (hz : ws.length ≤ 1000) (O : OrdI (F hs) A ws o) :
    ∃ ex, callN (n + 2) 14 [ti hs, ti ws] S = .ok (li (srt o)) (S ++ ex) := by
  have hl := List.length_filter_le ev2 ws
  obtain ⟨f', x', D, lp⟩ := l_loop n (S := S) (R := ti ws) W 1000000 [] (ws.filter ev2) none (DI.start hw (fun _ m => (List.mem_filter.mp m).1) (fun a m => List.mem_filter.mpr ⟨m, decide_eq_true (by omega)⟩)) (fun w m => of_decide_eq_true (List.mem_filter.mp m).2) (by have := tot_rest_le (F := F hs) (found := []) (A := A); have := W.sz; omega) (by have := tot_rest_le (F := F hs) (found := []) (A := A); have := W.sz; omega)
  have hp : f'.Perm o := perm_of D.nd O.nd fun a => by rw [D.done, O.mem]
  have so : gSortX [.loc S.length] (S ++ [.lst (ivs (nat f')), .lst []]) = some (li (srt o), S ++ [.lst (ivs (nat f')), .lst []]) := by
    rw [← srt_perm hp]
    cases f' with
    | nil =>
      have e1 : gSortA [.loc S.length] (S ++ [.lst (ivs (nat [])), .lst []]) = some (li (srt []), S ++ [.lst (ivs (nat [])), .lst []]) := by
        unfold gSortA gSorted
        simp only [asLW, at20]
        rw [show datas ((ivs (nat [])).map VI.W.d) = some [] from rfl]
        have e2 : srtS [] = [] := by simp [srtS]
        have e3 : srt [] = [] := by simp [srt, srtI]
        rw [e3]
        simp only [strsD, e2]
        rfl
      unfold gSortX
      rw [e1]
      rfl
    | cons a f' =>
      have e1 : gSortA [.loc S.length] (S ++ [.lst (ivs (nat (a :: f'))), .lst []]) = none := by
        have d : ∀ xs : List PyData, datas (xs.map VI.W.d) = some xs := datas_map
        unfold gSortA gSorted gSortT
        simp only [asLW, at20, d]
        rfl
      have e2 : gSortI [.loc S.length] (S ++ [.lst (ivs (nat (a :: f'))), .lst []]) = some (li (srt (a :: f')), S ++ [.lst (ivs (nat (a :: f'))), .lst []]) := by
        unfold gSortI
        simp only [asLst, asSeq, at20, intsD_ivs]
        rfl
      unfold gSortX
      rw [e1, e2]
      rfl
  have pr : fPar 2 3 (fAc (fL gLive fA0) (fAc (fLcL (fItS (fVar 1)) (gtName 4) (fTest (f2 gEq (f2 gMod (fL gIntA (fAc (fVar 4) fA0)) (fC (.int 2))) (fC (.int 0)))) (fVar 4) [4]) fA0)) [some (ti hs), some (ti ws), none, none, none, none] S = .next [some (ti hs), some (ti ws), some (.loc S.length), some (.loc (S.length + 1)), none, none] (S ++ [.lst [], .lst (ivs (ws.filter ev2))]) := by
    have lc := (evens (a := fVar 1) (ρ := [some (ti hs), some (ti ws), none, none, none, none]) (S := S ++ [.lst []]) (i := 4) (xs := ws) (ev_var rfl) (.inr rfl) (by show 4 < 6; decide) (by omega)).2
    have ar : fAc (fL gLive fA0) (fAc (fLcL (fItS (fVar 1)) (gtName 4) (fTest (f2 gEq (f2 gMod (fL gIntA (fAc (fVar 4) fA0)) (fC (.int 2))) (fC (.int 0)))) (fVar 4) [4]) fA0) [some (ti hs), some (ti ws), none, none, none, none] S = .ok [.loc S.length, .loc (S.length + 1)] (S ++ [.lst [], .lst (ivs (ws.filter ev2))]) := by
      rw [push2, List.length_append] at lc
      exact ev_ac (S1 := S ++ [.lst []]) rfl (ev_one lc)
    unfold fPar
    rw [ar]
    rfl
  refine ⟨[.lst (ivs (nat f')), .lst []], ?_⟩
  show toR (b14 (callN (n + 1)) [some (ti hs), some (ti ws), none, none, none, none] S) = _
  unfold b14
  refine ret_ok ((ev_seq pr).trans ((ev_seq lp).trans ?_))
  exact ev_ret (ev_L (ev_one (ev_var rfl)) so)
end Q9
end VI
set_option Elab.async false
set_option linter.all false
set_option maxRecDepth 100000
namespace VI
open PySem PySem.Spec PyProof.Rows L2
namespace Q9
open C9

/-! where the law puts them -/
def pz (pl : List (Nat × Nat)) : List (Int × PyData) := pl.map fun p => ((p.1 : Int), .int (p.2 : Int))
theorem pz_app (p q : List (Nat × Nat)) : pz (p ++ q) = pz p ++ pz q := List.map_append ..
theorem pz_keys (pl : List (Nat × Nat)) : (pz pl).map (·.1) = nat (pl.map (·.1)) := by
  unfold pz nat
  rw [List.map_map, List.map_map]
  rfl
theorem pz_look (a : Nat) : ∀ pl : List (Nat × Nat), valD (kz (pz pl)) (.inl (a : Int)) = (look pl a).map fun k => PyData.int (k : Int)
  | [] => rfl
  | p :: r => by
    rw [valD_kz]
    unfold pz look
    rw [List.map_cons, List.find?_cons, List.find?_cons]
    by_cases h : p.1 = a
    · rw [decide_eq_true h, decide_eq_true (show (p.1 : Int) = (a : Int) by omega)]
      rfl
    · rw [decide_eq_false h, decide_eq_false (show ¬ ((p.1 : Int) = (a : Int)) by omega)]
      have ih := pz_look a r
      rw [valD_kz] at ih
      exact ih
section
variable {hs : List Int} {base : Nat} {o : List Nat}
def stP (hs : List Int) (base : Nat) (o : List Nat) : SO := .dK (kz (pz (plc (F hs) base o)))
def stO (o : List Nat) : SO := .lst (ivs (nat o))
theorem pz_mem {a : Nat} : (a : Int) ∈ (pz (plc (F hs) base o)).map (·.1) ↔ a ∈ o := by rw [pz_keys, plc_keys, nat_mem]
theorem pz_len : (pz (plc (F hs) base o)).length = o.length := by
  have := congrArg List.length (plc_keys (F := F hs) (o := o) (base := base))
  rw [List.length_map] at this
  unfold pz
  rw [List.length_map, this]
theorem pz_pos {a : Nat} (h : a ∈ o) : valD (kz (pz (plc (F hs) base o))) (.inl (a : Int)) = some (.int (pos (F hs) base o a : Int)) := by
  rw [pz_look, pos_look h]
  rfl
theorem plc_new {a : Nat} : plc (F hs) base (o ++ [a]) = plc (F hs) base o ++ [(a, base + tot (F hs) o)] := by
  rw [plc_append]
  rfl
theorem stP_new {a : Nat} : stP hs base (o ++ [a]) = .dK (kz (pz (plc (F hs) base o) ++ [((a : Int), .int ((base + tot (F hs) o : Nat) : Int))])) := by
  unfold stP
  rw [plc_new, pz_app]
  rfl
theorem stO_new {a : Nat} : stO (o ++ [a]) = .lst (ivs (nat o) ++ [.int (a : Int)]) := by
  unfold stO nat ivs
  simp
end
theorem k_placed (n : Nat) {S : Store} {hs : List Int} {A o : List Nat} {base : Nat} {w : Int} (W : WF hs A) (hw : Wd A w) (hz : o.length < 100000) :
    callN (n + 2) 16 [ti hs, iw w, .loc S.length, .loc (S.length + 1), iw ((base + tot (F hs) o : Nat) : Int)] (S ++ [stP hs base o, stO o]) = .ok (iw ((base + tot (F hs) (put o w) : Nat) : Int)) (S ++ [stP hs base (put o w), stO (put o w)]) := by
  show toR (b16 (callN (n + 1)) [some (ti hs), some (iw w), some (.loc S.length), some (.loc (S.length + 1)), some (iw ((base + tot (F hs) o : Nat) : Int)), none] (S ++ [stP hs base o, stO o])) = _
  have md : ∀ S', gMod (iw w) (iw 2) S' = some (iw (w % 2), S') := fun S' => g_modI (by decide)
  rcases hw with z | ⟨a, ma, rfl⟩
  · rw [put_odd z]
    unfold b16
    refine ret_ok ((ev_seq (ρ1 := [some (ti hs), some (iw w), some (.loc S.length), some (.loc (S.length + 1)), some (iw ((base + tot (F hs) o : Nat) : Int)), some (iw (w / 2))]) (S1 := S ++ [stP hs base o, stO o]) (ev_asg (ev_f2 (ev_L (ev_one (ev_var rfl)) g_int) rfl (g_divI (by decide))))).trans ?_)
    refine ev_seqR ((ev_yes (S1 := S ++ [stP hs base o, stO o]) ?_).trans (ev_ret (ev_var rfl)))
    simp only [fSeq, fAsg, fVar, fC, f1, f2, fL, fAc, fA0, fTest, fAndT, fOrT, fNotT, fTru, fAndV, fOrV, fIfE, fIf, fRet, fAug, fDrop, fSl, fPart, fNoPart, intOf, gtName, R_ok, toS_ok, lift_some, boolW_ok, truR_b, List.getElem?_cons_zero, List.getElem?_cons_succ, List.set_cons_zero, List.set_cons_succ, g_int, md, g_eqI]
    rw [decide_eq_true z]
    rfl
  · have e2 : 2 * (a : Int) / 2 = a := by omega
    have e3 : 2 * (a : Int) % 2 = 0 := by omega
    unfold b16
    refine ret_ok ((ev_seq (ρ1 := [some (ti hs), some (iw (2 * (a : Int))), some (.loc S.length), some (.loc (S.length + 1)), some (iw ((base + tot (F hs) o : Nat) : Int)), some (iw (a : Int))]) (S1 := S ++ [stP hs base o, stO o]) (ev_asg (ev_f2 (ev_L (ev_one (ev_var rfl)) g_int) rfl (by rw [g_divI (by decide), e2])))).trans ?_)
    have din : gInD (iw (a : Int)) (.loc S.length) (S ++ [stP hs base o, stO o]) = some (bt (decide (a ∈ o)), S ++ [stP hs base o, stO o]) := by
      have h0 : (S ++ [stP hs base o, stO o])[S.length]? = some (.dK (kz (pz (plc (F hs) base o)))) := at20
      rw [d_in h0, decide_eq_decide.mpr pz_mem]
    have tst : ∀ k, decide (a ∈ o) = k → fOrT (fTest (f2 gEq (f2 gMod (fL gIntA (fAc (fVar 1) fA0)) (fC (.int 2))) (fC (.int 1)))) (fTest (f2 gInD (fVar 5) (fVar 2))) [some (ti hs), some (iw (2 * (a : Int))), some (.loc S.length), some (.loc (S.length + 1)), some (iw ((base + tot (F hs) o : Nat) : Int)), some (iw (a : Int))] (S ++ [stP hs base o, stO o]) = .ok k (S ++ [stP hs base o, stO o]) := fun k hk => by
      simp only [fSeq, fAsg, fVar, fC, f1, f2, fL, fAc, fA0, fTest, fAndT, fOrT, fNotT, fTru, fAndV, fOrV, fIfE, fIf, fRet, fAug, fDrop, fSl, fPart, fNoPart, intOf, gtName, R_ok, toS_ok, lift_some, boolW_ok, truR_b, List.getElem?_cons_zero, List.getElem?_cons_succ, List.set_cons_zero, List.set_cons_succ, g_int, md, g_eqI, e3]
      rw [decide_eq_false (show ¬ ((0 : Int) = 1) by decide)]
      simp only [Bool.false_eq_true, if_false, fSeq, fAsg, fVar, fC, f1, f2, fL, fAc, fA0, fTest, fAndT, fOrT, fNotT, fTru, fAndV, fOrV, fIfE, fIf, fRet, fAug, fDrop, fSl, fPart, fNoPart, intOf, gtName, R_ok, toS_ok, lift_some, boolW_ok, truR_b, List.getElem?_cons_zero, List.getElem?_cons_succ, List.set_cons_zero, List.set_cons_succ, din, hk]
    by_cases ho : a ∈ o
    · rw [put_old ho]
      exact ev_seqR ((ev_yes (tst true (decide_eq_true ho))).trans (ev_ret (ev_var rfl)))
    · rw [put_new ho]
      refine (ev_seq (ρ1 := [some (ti hs), some (iw (2 * (a : Int))), some (.loc S.length), some (.loc (S.length + 1)), some (iw ((base + tot (F hs) o : Nat) : Int)), some (iw (a : Int))]) (S1 := S ++ [stP hs base o, stO o]) ((ev_no (tst false (decide_eq_false ho))).trans rfl)).trans ?_
      have pt : fDput (fVar 4) (fVar 2) (fVar 5) [some (ti hs), some (iw (2 * (a : Int))), some (.loc S.length), some (.loc (S.length + 1)), some (iw ((base + tot (F hs) o : Nat) : Int)), some (iw (a : Int))] (S ++ [stP hs base o, stO o]) = .next [some (ti hs), some (iw (2 * (a : Int))), some (.loc S.length), some (.loc (S.length + 1)), some (iw ((base + tot (F hs) o : Nat) : Int)), some (iw (a : Int))] (S ++ [stP hs base (o ++ [a]), stO o]) := by
        have h0 : (S ++ [stP hs base o, stO o])[S.length]? = some (.dK (kz (pz (plc (F hs) base o)))) := at20
        rw [ev_dput (i := (a : Int)) (l := S.length) (ev_var rfl) (ev_var rfl) (ev_var rfl) h0 (by rw [pz_len]; omega) (fun m => ho (pz_mem.mp m)), set20, stP_new]
      refine (ev_seq pt).trans ?_
      have ap : fDrop (fMeth mAppend (fVar 3) (fAc (fVar 5) fA0)) [some (ti hs), some (iw (2 * (a : Int))), some (.loc S.length), some (.loc (S.length + 1)), some (iw ((base + tot (F hs) o : Nat) : Int)), some (iw (a : Int))] (S ++ [stP hs base (o ++ [a]), stO o]) = .next [some (ti hs), some (iw (2 * (a : Int))), some (.loc S.length), some (.loc (S.length + 1)), some (iw ((base + tot (F hs) o : Nat) : Int)), some (iw (a : Int))] (S ++ [stP hs base (o ++ [a]), stO (o ++ [a])]) := by
        have h1 : (S ++ [stP hs base (o ++ [a]), stO o])[S.length + 1]? = some (.lst (ivs (nat o))) := at21
        refine ev_drop (x := .d .none) (ev_meth (ev_var rfl) (live_l h1) (ev_one (ev_var rfl)) ?_)
        rw [m_app h1 (by rw [ivs_len, List.length_map]; omega), set21, stO_new]
      refine (ev_seq ap).trans ?_
      have f13 : fCall 2 (callN (n + 1) 13) (fAc (fVar 0) (fAc (fVar 5) fA0)) [some (ti hs), some (iw (2 * (a : Int))), some (.loc S.length), some (.loc (S.length + 1)), some (iw ((base + tot (F hs) o : Nat) : Int)), some (iw (a : Int))] (S ++ [stP hs base (o ++ [a]), stO (o ++ [a])]) = .ok (tu [.int (hs.getD a 0 / 2 % 5), .int (hs.getD a 0 / 2 / 5 / 256), .tuple (ivs (F hs a))]) (S ++ [stP hs base (o ++ [a]), stO (o ++ [a])]) :=
        fcall_at (ws := [ti hs, iw (a : Int)]) (ev_ac (ev_var rfl) (ev_one (ev_var rfl))) (k_lread n (W.lt ma) (W.ok a ma).2) rfl rfl
      have ln : ∀ S', gLen [ti (F hs a)] S' = some (iw ((F hs a).length : Int), S') := fun S' => by
        show some (iw ((ivs (F hs a)).length : Int), S') = _
        rw [ivs_len]
      have r : base + tot (F hs) (o ++ [a]) = base + tot (F hs) o + 1 + (F hs a).length := by rw [tot_append, tot_one]; omega
      rw [r]
      exact ev_ret (ev_f2 (ev_f2 (ev_var rfl) rfl rfl) (ev_L (ev_one (ev_f2 f13 rfl rfl)) (ln _)) rfl)
theorem fcall_mod {n : Nat} {g : List W → Store → R W} {fa : FA} {ρ : Rho} {S S1 S' : Store} {ws : List W} {x : PyData} (ea : fa ρ S = .ok ws S1) (eg : g ws S1 = .ok (.d x) S') (hz : S'.length = S1.length) (hn : ws.length = n := by rfl) : fCall n g fa ρ S = .ok (.d x) S' := fcall_at ea eg hz hn

/-! the law's collection -/
section
variable {S : Store} {hs : List Int} {A : List Nat} {base : Nat} {rm hf wd bg : W}
abbrev r15 (S : Store) (hs : List Int) (rm hf wd bg : W) (fr : Int) (x8 x9 : Option W) : Rho := [some (ti hs), some rm, some hf, some wd, some bg, some (.loc S.length), some (.loc (S.length + 1)), some (iw fr), x8, x9, none, none, none, none, none, none, none]
noncomputable abbrev pb15 (call : Calls) : FS := (fAsg (fCall 5 (call 16) (fAc (fVar 0) (fAc (fVar 8) (fAc (fVar 5) (fAc (fVar 6) (fAc (fVar 7) fA0)))))) (gtName 7))
theorem put_loop (n : Nat) (W : WF hs A) {x9 : Option VI.W} {ok : Store → Prop} (hok : ∀ S, ok S) : ∀ (ws : List Int) (o : List Nat) (x8 : Option VI.W), (∀ w ∈ ws, Wd A w) → o.Nodup → (∀ a ∈ o, a ∈ A) →
    ∃ x8', forL ok (gtName 8) (pb15 (callN (n + 2))) ((ivs ws).map VI.W.d) (r15 S hs rm hf wd bg ((base + tot (F hs) o : Nat) : Int) x8 x9) (S ++ [stP hs base o, stO o]) = .next (r15 S hs rm hf wd bg ((base + tot (F hs) (ws.foldl put o) : Nat) : Int) x8' x9) (S ++ [stP hs base (ws.foldl put o), stO (ws.foldl put o)])
  | [], o, x8, _, _, _ => ⟨x8, by show forL _ _ _ [] _ _ = _; rw [forL, if_pos (hok _)]; rfl⟩
  | w :: ws, o, x8, h, nd, sub => by
    have hw := h w (by simp)
    have P := puts_ok (A := A) (ws := [w]) nd sub (fun v m => by rw [List.mem_singleton.mp m]; exact hw)
    have P' : C9.PutI A o (put o w) [w] := P
    obtain ⟨x8', ih⟩ := put_loop n W (x9 := x9) hok ws (put o w) (some (iw w)) (fun v m => h v (List.mem_cons_of_mem _ m)) P'.nd P'.sub
    refine ⟨x8', ?_⟩
    have hl : o.length < 100000 := by have := sub_len nd sub; have := W.al; omega
    have st : pb15 (callN (n + 2)) (r15 S hs rm hf wd bg ((base + tot (F hs) o : Nat) : Int) (some (iw w)) x9) (S ++ [stP hs base o, stO o]) = .next (r15 S hs rm hf wd bg ((base + tot (F hs) (put o w) : Nat) : Int) (some (iw w)) x9) (S ++ [stP hs base (put o w), stO (put o w)]) := by
      refine ev_asg (fcall_mod (ws := [ti hs, iw w, .loc S.length, .loc (S.length + 1), iw ((base + tot (F hs) o : Nat) : Int)]) (ev_ac (ev_var rfl) (ev_ac (ev_var rfl) (ev_ac (ev_var rfl) (ev_ac (ev_var rfl) (ev_one (ev_var rfl)))))) (k_placed n W hw hl) ?_)
      rw [List.length_append, List.length_append]
      rfl
    show forL ok (gtName 8) _ (iw w :: (ivs ws).map VI.W.d) _ _ = _
    rw [forL, if_pos (hok _)]
    show (match pb15 (callN (n + 2)) (r15 S hs rm hf wd bg ((base + tot (F hs) o : Nat) : Int) (some (iw w)) x9) (S ++ [stP hs base o, stO o]) with
      | .next ρ2 S2 => forL ok (gtName 8) _ ((ivs ws).map VI.W.d) ρ2 S2
      | .cnt ρ2 S2 => forL ok (gtName 8) _ ((ivs ws).map VI.W.d) ρ2 S2
      | .brk ρ2 S2 => .next ρ2 S2
      | r => r) = _
    rw [st]
    exact ih
noncomputable abbrev sc15 : FT := (fTest (f2 gLt (fVar 9) (fL gLen (fAc (fVar 6) fA0))))
noncomputable abbrev sb15 (call : Calls) : FS := (fSeq (fFor (fItS (f2 gIx (fCall 2 (call 13) (fAc (fVar 0) (fAc (f2 gIx (fVar 6) (fVar 9)) fA0))) (fC (.int 2)))) (gtName 8) (fAsg (fCall 5 (call 16) (fAc (fVar 0) (fAc (fVar 8) (fAc (fVar 5) (fAc (fVar 6) (fAc (fVar 7) fA0)))))) (gtName 7))) (fAug 9 (gI2 (fun _ _ => true) fun i j => .int (i + j)) (fC (.int 1))))
theorem scan_loop (n : Nat) {ws : List Int} (W : WF hs A) : ∀ (m i : Nat) (o : List Nat) (x8 : Option VI.W), BI (F hs) A ws o i → i ≤ o.length → A.length < m + i →
    ∃ x8' x9', whileL sc15 (sb15 (callN (n + 2))) m (r15 S hs rm hf wd bg ((base + tot (F hs) o : Nat) : Int) x8 (some (iw (i : Int)))) (S ++ [stP hs base o, stO o]) = .next (r15 S hs rm hf wd bg ((base + tot (F hs) (C9.scan (F hs) m i o) : Nat) : Int) x8' x9') (S ++ [stP hs base (C9.scan (F hs) m i o), stO (C9.scan (F hs) m i o)])
  | 0, i, o, x8, h, hi, hm => absurd (h.len W.nd) (by omega)
  | m + 1, i, o, x8, h, hi, hm => by
    have h1 : (S ++ [stP hs base o, stO o])[S.length + 1]? = some (.lst (ivs (nat o))) := at21
    have ct : sc15 (r15 S hs rm hf wd bg ((base + tot (F hs) o : Nat) : Int) x8 (some (iw (i : Int)))) (S ++ [stP hs base o, stO o]) = .ok (decide (i < o.length)) (S ++ [stP hs base o, stO o]) := by
      simp only [fSeq, fAsg, fVar, fC, f1, f2, fL, fAc, fA0, fTest, fAndT, fOrT, fNotT, fTru, fAndV, fOrV, fIfE, fIf, fRet, fAug, fDrop, fSl, fPart, fNoPart, intOf, gtName, R_ok, toS_ok, lift_some, boolW_ok, truR_b, List.getElem?_cons_zero, List.getElem?_cons_succ, List.set_cons_zero, List.set_cons_succ, len_l h1, g_ltI, ivs_len, List.length_map, Int.ofNat_lt]
    rw [while_step, ct, toS_ok]
    unfold C9.scan
    cases e : o[i]? with
    | none =>
      have hl : o.length ≤ i := List.getElem?_eq_none_iff.mp e
      rw [decide_eq_false (by omega), if_neg (by decide)]
      exact ⟨x8, _, rfl⟩
    | some a =>
      have hl := (List.getElem?_eq_some_iff.mp e).1
      have ma := h.sub a (List.mem_of_getElem? e)
      rw [decide_eq_true hl, if_pos rfl]
      have hg : (ivs (nat o))[i]? = some (.int (a : Int)) := by
        unfold ivs nat
        rw [List.map_map, List.getElem?_map, e]
        rfl
      have f13 : fCall 2 (callN (n + 2) 13) (fAc (fVar 0) (fAc (f2 gIx (fVar 6) (fVar 9)) fA0)) (r15 S hs rm hf wd bg ((base + tot (F hs) o : Nat) : Int) x8 (some (iw (i : Int)))) (S ++ [stP hs base o, stO o]) = .ok (tu [.int (hs.getD a 0 / 2 % 5), .int (hs.getD a 0 / 2 / 5 / 256), .tuple (ivs (F hs a))]) (S ++ [stP hs base o, stO o]) :=
        fcall_at (ws := [ti hs, iw (a : Int)]) (ev_ac (ev_var rfl) (ev_one (ev_f2 (ev_var rfl) (ev_var rfl) (g_ixl h1 hg)))) (k_lread (n + 1) (W.lt ma) (W.ok a ma).2) rfl rfl
      obtain ⟨ok, hok, hit⟩ := it_pure (a := f2 gIx (fCall 2 (callN (n + 2) 13) (fAc (fVar 0) (fAc (f2 gIx (fVar 6) (fVar 9)) fA0))) (fC (.int 2))) (xs := ivs (F hs a)) (ev_f2 f13 rfl rfl) (.inr rfl)
      obtain ⟨x8', lp⟩ := put_loop (S := S) (base := base) (rm := rm) (hf := hf) (wd := wd) (bg := bg) n W (x9 := some (iw (i : Int))) hok (F hs a) o x8 (W.wd a ma) h.nd h.sub
      have h' := h.next W.wd e
      have P := puts_ok (A := A) h.nd h.sub (W.wd a ma)
      obtain ⟨x8'', x9', ih⟩ := scan_loop n W m (i + 1) ((F hs a).foldl put o) x8' h' (by obtain ⟨q, eq⟩ := P.pre; rw [eq, List.length_append]; omega) (by omega)
      refine ⟨x8'', x9', ?_⟩
      have fr : fFor (fItS (f2 gIx (fCall 2 (callN (n + 2) 13) (fAc (fVar 0) (fAc (f2 gIx (fVar 6) (fVar 9)) fA0))) (fC (.int 2)))) (gtName 8) (pb15 (callN (n + 2))) (r15 S hs rm hf wd bg ((base + tot (F hs) o : Nat) : Int) x8 (some (iw (i : Int)))) (S ++ [stP hs base o, stO o]) = .next (r15 S hs rm hf wd bg ((base + tot (F hs) ((F hs a).foldl put o) : Nat) : Int) x8' (some (iw (i : Int)))) (S ++ [stP hs base ((F hs a).foldl put o), stO ((F hs a).foldl put o)]) := by
        unfold fFor
        rw [hit]
        exact lp
      have bd : sb15 (callN (n + 2)) (r15 S hs rm hf wd bg ((base + tot (F hs) o : Nat) : Int) x8 (some (iw (i : Int)))) (S ++ [stP hs base o, stO o]) = .next (r15 S hs rm hf wd bg ((base + tot (F hs) ((F hs a).foldl put o) : Nat) : Int) x8' (some (iw ((i + 1 : Nat) : Int)))) (S ++ [stP hs base ((F hs a).foldl put o), stO ((F hs a).foldl put o)]) := by
        refine (ev_seq fr).trans ?_
        rfl
      rw [bd]
      exact ih
end
end Q9
end VI
set_option Elab.async false
set_option linter.all false
set_option maxRecDepth 100000
namespace VI
open PySem PySem.Spec PyProof.Rows L2
namespace Q9
open C9

/-! words, moved -/
section
variable {hs : List Int} {base : Nat} {o : List Nat}
noncomputable abbrev rlE (d i : Nat) : FE := (fIfE (fTest (f2 gEq (f2 gMod (fL gIntA (fAc (fVar i) fA0)) (fC (.int 2))) (fC (.int 0)))) (f2 gMulA (fC (.int 2)) (f2 gIxA (fVar d) (f2 gDiv (fL gIntA (fAc (fVar i) fA0)) (fC (.int 2))))) (fVar i))
theorem ev_ify {t : FT} {a b : FE} {ρ : Rho} {S S1 : Store} (h : t ρ S = .ok true S1) : fIfE t a b ρ S = a ρ S1 := by unfold fIfE; rw [h, R_ok, if_pos rfl]
theorem ev_ifn {t : FT} {a b : FE} {ρ : Rho} {S S1 : Store} (h : t ρ S = .ok false S1) : fIfE t a b ρ S = b ρ S1 := by unfold fIfE; rw [h, R_ok, if_neg (by decide)]
theorem rl_ev {ρ : Rho} {S : Store} {p d i : Nat} {w : Int} (hd : ρ[d]? = some (some (.loc p))) (hi : ρ[i]? = some (some (iw w))) (hp : S[p]? = some (stP hs base o)) (hw : Wd o w) (hz : base + tot (F hs) o ≤ 1000000) (nd : o.Nodup) : rlE d i ρ S = .ok (iw (rel (F hs) base o w)) S := by
  have md : gMod (iw w) (iw 2) S = some (iw (w % 2), S) := g_modI (by decide)
  have vi : fVar i ρ S = .ok (iw w) S := ev_var hi
  have vd : fVar d ρ S = .ok (.loc p) S := ev_var hd
  have tst : fTest (f2 gEq (f2 gMod (fL gIntA (fAc (fVar i) fA0)) (fC (.int 2))) (fC (.int 0))) ρ S = .ok (decide (w % 2 = 0)) S := ev_test (ev_f2 (ev_f2 (ev_L (ev_one vi) g_int) rfl md) rfl g_eqI)
  rcases hw with z | ⟨a, ma, rfl⟩
  · rw [decide_eq_false (by omega)] at tst
    rw [rel_odd z]
    exact (ev_ifn tst).trans vi
  · have dv : gDiv (iw (2 * (a : Int))) (iw 2) S = some (iw (a : Int), S) := by rw [g_divI (by decide), show 2 * (a : Int) / 2 = a by omega]
    have ix : gIxA (.loc p) (iw (a : Int)) S = some (iw (pos (F hs) base o a : Int), S) := d_get (v := .int _) hp (pz_pos ma)
    have pl := (pos_lt (F := F hs) (base := base) nd ma).2
    have mu : gMulA (iw 2) (iw (pos (F hs) base o a : Int)) S = some (iw (2 * (pos (F hs) base o a : Int)), S) := g_mul (by decide) (by omega)
    rw [decide_eq_true (by omega)] at tst
    rw [rel_even]
    exact (ev_ify tst).trans <| ev_f2 rfl (ev_f2 vd (ev_f2 (ev_L (ev_one vi) g_int) rfl dv) ix) mu
theorem rl_all {ρ : Rho} {S : Store} {p d i : Nat} {a : FE} {y : PyData} {xs : List Int} (ea : a ρ S = .ok (.d y) S) (hy : y = .list (ivs xs) ∨ y = .tuple (ivs xs)) (hd : ρ[d]? = some (some (.loc p))) (hdi : i ≠ d) (hi : i < ρ.length) (hp : S[p]? = some (stP hs base o)) (hw : ∀ w ∈ xs, Wd o w) (hz : base + tot (F hs) o ≤ 1000000) (nd : o.Nodup) (hx : xs.length < 1000000) :
    fLc (fItS a) (gtName i) fYes (rlE d i) [i] ρ S = .ok (li (xs.map (rel (F hs) base o))) S := by
  obtain ⟨ok, hok, hit⟩ := it_pure (a := a) (ρ := ρ) (S := S) (xs := ivs xs) ea hy
  have lc := flc_all (g := gtName i) (el := rlE d i) (vs := [i]) (f := fun (w : W) => match w with | W.d (.int j) => PyData.int (rel (F hs) base o j) | _ => PyData.none) hit (by rw [List.length_map, ivs_len]; exact hx) (fun S' _ => hok S') fun w m S' s => by
    obtain ⟨d', md, rfl⟩ := List.mem_map.mp m
    obtain ⟨j, mj, rfl⟩ := List.mem_map.mp md
    refine ⟨(wipeR ρ [i]).set i (some (iw j)), rfl, ?_⟩
    refine rl_ev ?_ ?_ (s.at hp) (hw j mj) hz nd
    · show ((ρ.set i none).set i _)[d]? = _
      rw [List.getElem?_set_ne hdi, List.getElem?_set_ne hdi, hd]
    · show ((ρ.set i none).set i _)[i]? = _
      rw [List.getElem?_set_self (by rw [List.length_set]; exact hi)]
  have e : ((ivs xs).map W.d).map (fun (w : W) => match w with | W.d (.int j) => PyData.int (rel (F hs) base o j) | _ => PyData.none) = ivs (xs.map (rel (F hs) base o)) := by
    unfold ivs
    rw [List.map_map, List.map_map, List.map_map]
    rfl
  rw [e] at lc
  exact lc
end
def Z (n : Nat) : List Int := List.replicate n 0
theorem Z_len (n : Nat) : (Z n).length = n := List.length_replicate ..
theorem Z_add (n m : Nat) : Z (n + m) = Z n ++ Z m := (List.replicate_append_replicate ..).symm
def rblk (hs : List Int) (base : Nat) (o : List Nat) (a : Nat) : List Int := hs.getD a 0 :: (F hs a).map (rel (F hs) base o)
def flat (hs : List Int) (base : Nat) (o xs : List Nat) : List Int := xs.flatMap (rblk hs base o)
theorem rblk_len {hs : List Int} {base : Nat} {o : List Nat} {a : Nat} : (rblk hs base o a).length = 1 + (F hs a).length := by unfold rblk; rw [List.length_cons, List.length_map]; omega
theorem flat_cons {hs : List Int} {base : Nat} {o xs : List Nat} {a : Nat} : flat hs base o (a :: xs) = rblk hs base o a ++ flat hs base o xs := List.flatMap_cons ..
theorem flat_app {hs : List Int} {base : Nat} {o xs ys : List Nat} : flat hs base o (xs ++ ys) = flat hs base o xs ++ flat hs base o ys := List.flatMap_append ..
theorem flat_len {hs : List Int} {base : Nat} {o : List Nat} : ∀ xs : List Nat, (flat hs base o xs).length = tot (F hs) xs
  | [] => rfl
  | a :: xs => by rw [flat_cons, List.length_append, rblk_len, flat_len xs, tot_cons]
theorem mul_zL {S : Store} {k : Int} (h : 0 ≤ k ∧ k ≤ 100000) : gMulL (.d (.list [.int 0])) (iw k) S = some (.loc S.length, S ++ [.lst (ivs (Z k.toNat))]) := by
  have e1 : gRepLL (.d (.list [.int 0])) (iw k) S = some (.loc S.length, S ++ [.lst (ivs (Z k.toNat))]) := by
    unfold gRepLL
    simp only [asL]
    have e : (List.replicate k.toNat [PyData.int 0]).flatten = ivs (Z k.toNat) := by
      unfold ivs Z
      rw [List.map_replicate]
      induction k.toNat with
      | zero => rfl
      | succ n ih => rw [List.replicate_succ, List.flatten_cons, ih, List.replicate_succ]; rfl
    have hlen : [PyData.int 0].length * k.toNat ≤ lim := by
      show 1 * k.toNat ≤ 16777216
      omega
    rw [if_pos ⟨by omega, by omega, hlen⟩, e]
  unfold gMulL
  rw [e1]

/-! the law's layout -/
section
variable {S : Store} {hs : List Int} {A : List Nat} {base : Nat} {rm hf wd bg : W}
abbrev r15f (S : Store) (hs : List Int) (rm hf wd bg : W) (fr : Int) (x8 x9 x11 x12 x13 x14 x15 : Option W) : Rho := [some (ti hs), some rm, some hf, some wd, some bg, some (.loc S.length), some (.loc (S.length + 1)), some (iw fr), x8, x9, some (.loc (S.length + 2)), x11, x12, x13, x14, x15, none]
noncomputable abbrev fb15 (call : Calls) : FS := (fSeq (fAsg (fCall 2 (call 13) (fAc (fVar 0) (fAc (fVar 11) fA0))) (gtTup 3 (gtCons (gtName 12) (gtCons (gtName 13) (gtCons (gtName 14) gtNil))))) (fSeq (fAsg (f2 gAdd (fL gLst (fAc (f2 gIx (fVar 0) (fVar 11)) fA0)) (fLc (fItS (fVar 14)) (gtName 16) fYes (rlE 5 16) [16])) (gtName 15)) (fStoreSl (fVar 15) (fVar 10) (f2 gIxA (fVar 5) (fVar 11)) (f2 gAdd (f2 gIxA (fVar 5) (fVar 11)) (fL gLen (fAc (fVar 15) fA0))))))
theorem fill_one (n : Nat) (W : WF hs A) {o o1 o2 : List Nat} {a R2 : Nat} {fr : Int} {x8 x9 x12 x13 x14 x15 : Option VI.W} (ho : o = o1 ++ a :: o2) (nd : o.Nodup) (sub : ∀ b ∈ o, b ∈ A) (wdo : ∀ b ∈ o, ∀ w ∈ F hs b, Wd o w) (hz : base + tot (F hs) o ≤ R2) (hR : R2 ≤ 100000) :
    ∃ y12 y13 y14 y15, fb15 (callN (n + 1)) (r15f S hs rm hf wd bg fr x8 x9 (some (iw (a : Int))) x12 x13 x14 x15) (S ++ [stP hs base o, stO o, .lst (ivs (Z base ++ flat hs base o o1 ++ Z (R2 - base - tot (F hs) o1)))]) =
      .next (r15f S hs rm hf wd bg fr x8 x9 (some (iw (a : Int))) y12 y13 y14 y15) (S ++ [stP hs base o, stO o, .lst (ivs (Z base ++ flat hs base o (o1 ++ [a]) ++ Z (R2 - base - tot (F hs) (o1 ++ [a]))))]) := by
  have ma : a ∈ o := by rw [ho]; simp
  have maA := sub a ma
  have n1 : a ∉ o1 := by
    rw [ho] at nd
    exact fun m => (List.nodup_append.mp nd).2.2 a m a (by simp) rfl
  have hp : pos (F hs) base o a = base + tot (F hs) o1 := by rw [ho]; exact pos_mid n1
  have ht : tot (F hs) o = tot (F hs) o1 + (1 + (F hs a).length + tot (F hs) o2) := by rw [ho, tot_append, tot_cons]
  have hlenF : (F hs a).length ≤ 100000 := by omega
  refine ⟨some (iw (hs.getD a 0 / 2 % 5)), some (iw (hs.getD a 0 / 2 / 5 / 256)), some (ti (F hs a)), some (li (rblk hs base o a)), ?_⟩
  have h0 : (S ++ [stP hs base o, stO o, .lst (ivs (Z base ++ flat hs base o o1 ++ Z (R2 - base - tot (F hs) o1)))])[S.length]? = some (stP hs base o) := at30
  have f13 : fCall 2 (callN (n + 1) 13) (fAc (fVar 0) (fAc (fVar 11) fA0)) (r15f S hs rm hf wd bg fr x8 x9 (some (iw (a : Int))) x12 x13 x14 x15) (S ++ [stP hs base o, stO o, .lst (ivs (Z base ++ flat hs base o o1 ++ Z (R2 - base - tot (F hs) o1)))]) = .ok (tu [.int (hs.getD a 0 / 2 % 5), .int (hs.getD a 0 / 2 / 5 / 256), .tuple (ivs (F hs a))]) (S ++ [stP hs base o, stO o, .lst (ivs (Z base ++ flat hs base o o1 ++ Z (R2 - base - tot (F hs) o1)))]) :=
    fcall_at (ws := [ti hs, iw (a : Int)]) (ev_ac (ev_var rfl) (ev_one (ev_var rfl))) (k_lread n (W.lt maA) (W.ok a maA).2) rfl rfl
  generalize hS' : S ++ [stP hs base o, stO o, .lst (ivs (Z base ++ flat hs base o o1 ++ Z (R2 - base - tot (F hs) o1)))] = S' at f13 h0 ⊢
  refine (ev_seq (ρ1 := r15f S hs rm hf wd bg fr x8 x9 (some (iw (a : Int))) (some (iw (hs.getD a 0 / 2 % 5))) (some (iw (hs.getD a 0 / 2 / 5 / 256))) (some (ti (F hs a))) x15) (S1 := S') ?_).trans ?_
  · unfold fAsg
    rw [f13]
    rfl
  have lc := rl_all (hs := hs) (base := base) (o := o) (ρ := r15f S hs rm hf wd bg fr x8 x9 (some (iw (a : Int))) (some (iw (hs.getD a 0 / 2 % 5))) (some (iw (hs.getD a 0 / 2 / 5 / 256))) (some (ti (F hs a))) x15) (S := S') (p := S.length) (d := 5) (i := 16) (a := fVar 14) (xs := F hs a) (ev_var rfl) (.inr rfl) rfl (by decide) (by show 16 < 17; decide) h0 (wdo a ma) (by omega) nd (by omega)
  have ad : gAdd (.d (.list [.int (hs.getD a 0)])) (li ((F hs a).map (rel (F hs) base o))) S' = some (li (rblk hs base o a), S') := by
    unfold gAdd
    simp only [asL]
    rw [if_pos (show [PyData.int (hs.getD a 0)].length + (ivs ((F hs a).map (rel (F hs) base o))).length ≤ lim by rw [ivs_len, List.length_map]; show 1 + _ ≤ 16777216; omega)]
    rfl
  refine (ev_seq (ρ1 := r15f S hs rm hf wd bg fr x8 x9 (some (iw (a : Int))) (some (iw (hs.getD a 0 / 2 % 5))) (some (iw (hs.getD a 0 / 2 / 5 / 256))) (some (ti (F hs a))) (some (li (rblk hs base o a)))) (S1 := S') (ev_asg (ev_f2 (ev_L (ws := [iw (hs.getD a 0)]) (ev_one (ev_f2 (ev_var rfl) (ev_var rfl) (g_ixT (ivs_get (W.lt maA))))) rfl) lc ad))).trans ?_
  have ix : gIxA (.loc S.length) (iw (a : Int)) S' = some (iw ((base + tot (F hs) o1 : Nat) : Int), S') := by
    rw [← hp]
    exact d_get (v := .int _) h0 (pz_pos ma)
  have ln : gLen [li (rblk hs base o a)] S' = some (iw ((1 + (F hs a).length : Nat) : Int), S') := by
    show some (iw ((ivs (rblk hs base o a)).length : Int), S') = _
    rw [ivs_len, rblk_len]
  have tl : tot (F hs) (o1 ++ [a]) = tot (F hs) o1 + (1 + (F hs a).length) := by rw [tot_append, tot_one]
  have fl : (Z base ++ flat hs base o o1).length = base + tot (F hs) o1 := by rw [List.length_append, Z_len, flat_len]
  have st : gSetSl (.loc (S.length + 2)) (iw ((base + tot (F hs) o1 : Nat) : Int)) (iw (((base + tot (F hs) o1 : Nat) : Int) + ((1 + (F hs a).length : Nat) : Int))) (li (rblk hs base o a)) S' = some (S ++ [stP hs base o, stO o, .lst (ivs (Z base ++ flat hs base o (o1 ++ [a]) ++ Z (R2 - base - tot (F hs) (o1 ++ [a]))))]) := by
    have h2 : S'[S.length + 2]? = some (.lst (ivs (Z base ++ flat hs base o o1 ++ Z (R2 - base - tot (F hs) o1)))) := by rw [← hS']; exact at32
    unfold gSetSl
    simp only [h2]
    rw [if_pos]
    · rw [← hS', set32]
      congr 4
      have e1 : (((base + tot (F hs) o1 : Nat) : Int)).toNat = base + tot (F hs) o1 := Int.toNat_natCast _
      have e2 : (((base + tot (F hs) o1 : Nat) : Int) + ((1 + (F hs a).length : Nat) : Int)).toNat = base + tot (F hs) o1 + (1 + (F hs a).length) := by omega
      rw [e1, e2]
      have e3 : ivs (Z base ++ flat hs base o o1 ++ Z (R2 - base - tot (F hs) o1)) = ivs (Z base ++ flat hs base o o1) ++ ivs (Z (R2 - base - tot (F hs) o1)) := ivs_app _ _
      have l3 : (ivs (Z base ++ flat hs base o o1)).length = base + tot (F hs) o1 := by rw [ivs_len, fl]
      rw [e3, ← l3, List.take_left, List.drop_append, l3]
      have e4 : (ivs (Z base ++ flat hs base o o1)).drop (base + tot (F hs) o1 + (1 + (F hs a).length)) = [] := List.drop_eq_nil_of_le (by rw [l3]; omega)
      rw [e4, List.nil_append, Nat.add_sub_cancel_left]
      have e5 : (ivs (Z (R2 - base - tot (F hs) o1))).drop (1 + (F hs a).length) = ivs (Z (R2 - base - tot (F hs) (o1 ++ [a]))) := by
        have : R2 - base - tot (F hs) o1 = (1 + (F hs a).length) + (R2 - base - tot (F hs) (o1 ++ [a])) := by rw [tl]; omega
        rw [this, Z_add, ivs_app, List.drop_left' (by rw [ivs_len, Z_len])]
      rw [e5, flat_app, flat_cons, show flat hs base o [] = [] from rfl, List.append_nil, ← List.append_assoc, ← ivs_app, ← ivs_app]
    · rw [ivs_len, List.length_append, fl, Z_len, ivs_len, rblk_len]
      refine ⟨by omega, by omega, by omega, ?_⟩
      show _ ≤ 16777216
      omega
  unfold fStoreSl
  simp only [fSeq, fAsg, fVar, fC, f1, f2, fL, fAc, fA0, fTest, fAndT, fOrT, fNotT, fTru, fAndV, fOrV, fIfE, fIf, fRet, fAug, fDrop, fSl, fPart, fNoPart, intOf, gtName, R_ok, toS_ok, lift_some, boolW_ok, truR_b, List.getElem?_cons_zero, List.getElem?_cons_succ, List.set_cons_zero, List.set_cons_succ, ix, ln, g_addI, st]
theorem fill_loop (n : Nat) (W : WF hs A) {o : List Nat} {R2 : Nat} {fr : Int} {x8 x9 : Option VI.W} (nd : o.Nodup) (sub : ∀ b ∈ o, b ∈ A) (wdo : ∀ b ∈ o, ∀ w ∈ F hs b, Wd o w) (hz : base + tot (F hs) o ≤ R2) (hR : R2 ≤ 100000) {ok : Store → Prop} (hok : ∀ X, ok (S ++ [stP hs base o, stO o, X])) :
    ∀ (o2 o1 : List Nat) (x11 x12 x13 x14 x15 : Option VI.W), o = o1 ++ o2 →
    ∃ y11 y12 y13 y14 y15, forL ok (gtName 11) (fb15 (callN (n + 1))) ((ivs (nat o2)).map VI.W.d) (r15f S hs rm hf wd bg fr x8 x9 x11 x12 x13 x14 x15) (S ++ [stP hs base o, stO o, .lst (ivs (Z base ++ flat hs base o o1 ++ Z (R2 - base - tot (F hs) o1)))]) =
      .next (r15f S hs rm hf wd bg fr x8 x9 y11 y12 y13 y14 y15) (S ++ [stP hs base o, stO o, .lst (ivs (Z base ++ flat hs base o o ++ Z (R2 - base - tot (F hs) o)))])
  | [], o1, x11, x12, x13, x14, x15, ho => ⟨x11, x12, x13, x14, x15, by
    rw [List.append_nil] at ho
    subst ho
    show forL _ _ _ [] _ _ = _
    rw [forL, if_pos (hok _)]⟩
  | a :: o2, o1, x11, x12, x13, x14, x15, ho => by
    obtain ⟨y12, y13, y14, y15, e1⟩ := fill_one (S := S) (rm := rm) (hf := hf) (wd := wd) (bg := bg) n W (fr := fr) (x8 := x8) (x9 := x9) (x12 := x12) (x13 := x13) (x14 := x14) (x15 := x15) ho nd sub wdo hz hR
    obtain ⟨z11, z12, z13, z14, z15, e2⟩ := fill_loop n W (fr := fr) (x8 := x8) (x9 := x9) nd sub wdo hz hR hok o2 (o1 ++ [a]) (some (iw (a : Int))) y12 y13 y14 y15 (by rw [ho]; simp)
    refine ⟨z11, z12, z13, z14, z15, ?_⟩
    show forL ok (gtName 11) _ (iw (a : Int) :: (ivs (nat o2)).map VI.W.d) _ _ = _
    rw [forL, if_pos (hok _)]
    show (match fb15 (callN (n + 1)) (r15f S hs rm hf wd bg fr x8 x9 (some (iw (a : Int))) x12 x13 x14 x15) (S ++ [stP hs base o, stO o, .lst (ivs (Z base ++ flat hs base o o1 ++ Z (R2 - base - tot (F hs) o1)))]) with
      | .next ρ2 S2 => forL ok (gtName 11) _ ((ivs (nat o2)).map VI.W.d) ρ2 S2
      | .cnt ρ2 S2 => forL ok (gtName 11) _ ((ivs (nat o2)).map VI.W.d) ρ2 S2
      | .brk ρ2 S2 => .next ρ2 S2
      | r => r) = _
    rw [e1]
    exact e2
end
/-- what is known of the roots and what they reach -/
structure Ok (hs : List Int) (A : List Nat) (ws : List Int) (o : List Nat) (rm : Nat) : Prop where
  W : WF hs A
  hw : ∀ w ∈ ws, Wd A w
  lw : ws.length ≤ 1000
  o_eq : o = ord (F hs) ws
  cap : tot (F hs) o ≤ rm
  rz : rm ≤ 5000
section
variable {hs : List Int} {A : List Nat} {ws : List Int} {o : List Nat} {rm : Nat}
theorem Ok.O (K : Ok hs A ws o rm) : OrdI (F hs) A ws o := by
  rw [K.o_eq]
  exact ord_ok K.W.nd (by have := K.W.al; omega) K.W.wd K.hw
theorem Ok.wdo (K : Ok hs A ws o rm) : ∀ b ∈ o, ∀ w ∈ F hs b, Wd o w := fun b mb w mw => by
  have O := K.O
  rcases K.W.wd b (O.sub b mb) w mw with z | ⟨c, mc, rfl⟩
  · exact .inl z
  · exact .inr ⟨c, (O.mem c).mpr (.step ((O.mem b).mp mb) mw), rfl⟩
theorem Ok.wdr (K : Ok hs A ws o rm) : ∀ w ∈ ws, Wd o w := fun w mw => by
  rcases K.hw w mw with z | ⟨c, mc, rfl⟩
  · exact .inl z
  · exact .inr ⟨c, (K.O.mem c).mpr (.root mw), rfl⟩
def lay (hs : List Int) (base : Nat) (o : List Nat) (R2 : Nat) : List Int := Z base ++ flat hs base o o ++ Z (R2 - base - tot (F hs) o)
theorem Z_split {hs : List Int} {o : List Nat} {base rm : Nat} (h : base ≤ 2 * rm) : Z (2 * rm) = Z base ++ flat hs base o [] ++ Z (2 * rm - base - tot (F hs) []) := by
  have e0 : flat hs base o [] = [] := rfl
  have e1 : 2 * rm = base + (2 * rm - base - tot (F hs) []) := by rw [tot_nil]; omega
  generalize 2 * rm - base - tot (F hs) [] = q at e1
  rw [e0, List.append_nil, e1, Z_add]
theorem k_lcollected (n : Nat) {S : Store} {hf base : Nat} (K : Ok hs A ws o rm) (hb : (hf = 0 ∧ base = rm) ∨ (hf = 1 ∧ base = 0)) :
    callN (n + 3) 15 [ti hs, iw (rm : Int), iw (hf : Int), li ws] S = .ok (.tp [.loc (S.length + 2), iw ((base + tot (F hs) o : Nat) : Int), li (ws.map (rel (F hs) base o))]) (S ++ [stP hs base o, stO o, .lst (ivs (lay hs base o (2 * rm)))]) := by
  have O := K.O
  have hcap := K.cap
  have hrz := K.rz
  have hbz : base + tot (F hs) o ≤ 2 * rm := by rcases hb with ⟨_, e⟩ | ⟨_, e⟩ <;> omega
  have sb : gMulA (iw (1 - (hf : Int))) (iw (rm : Int)) S = some (iw (base : Int), S) := by
    rw [g_mul (by omega) (by omega)]
    rcases hb with ⟨e, e'⟩ | ⟨e, e'⟩ <;> subst e <;> subst e'
    · simp
    · simp
  show toR (b15 (callN (n + 2)) [some (ti hs), some (iw (rm : Int)), some (iw (hf : Int)), some (li ws), none, none, none, none, none, none, none, none, none, none, none, none, none] S) = _
  unfold b15
  refine ret_ok ((ev_seq (ρ1 := [some (ti hs), some (iw (rm : Int)), some (iw (hf : Int)), some (li ws), some (iw (base : Int)), none, none, none, none, none, none, none, none, none, none, none, none]) (S1 := S) (ev_asg (ev_f2 (ev_f2 rfl (ev_var rfl) rfl) (ev_var rfl) sb))).trans ?_)
  refine (ev_seq (ρ1 := r15 S hs (iw (rm : Int)) (iw (hf : Int)) (li ws) (iw (base : Int)) ((base + tot (F hs) [] : Nat) : Int) none none) (S1 := S ++ [stP hs base [], stO []]) ?_).trans ?_
  · have ar : fAc fDnew (fAc (fL gLive fA0) (fAc (fVar 4) fA0)) [some (ti hs), some (iw (rm : Int)), some (iw (hf : Int)), some (li ws), some (iw (base : Int)), none, none, none, none, none, none, none, none, none, none, none, none] S = .ok [.loc S.length, .loc (S.length + 1), iw (base : Int)] (S ++ [stP hs base [], stO []]) := by
      refine ev_ac (S1 := S ++ [stP hs base []]) rfl (ev_ac (x := .loc (S.length + 1)) (S1 := S ++ [stP hs base [], stO []]) ?_ (ev_one (ev_var rfl)))
      refine ev_L (ws := []) rfl ?_
      show some (W.loc (S ++ [stP hs base []]).length, (S ++ [stP hs base []]) ++ [SO.lst []]) = _
      rw [List.length_append, push2]
      rfl
    unfold fAsg
    rw [ev_L ar (by rfl : gTup [.loc S.length, .loc (S.length + 1), iw (base : Int)] _ = some (.tp [.loc S.length, .loc (S.length + 1), iw (base : Int)], _))]
    rw [tot_nil, Nat.add_zero]
    rfl
  obtain ⟨ok, hok, hit⟩ := it_pure (a := fVar 3) (ρ := r15 S hs (iw (rm : Int)) (iw (hf : Int)) (li ws) (iw (base : Int)) ((base + tot (F hs) [] : Nat) : Int) none none) (S := S ++ [stP hs base [], stO []]) (xs := ivs ws) (ev_var rfl) (.inl rfl)
  obtain ⟨x8, lp⟩ := put_loop (S := S) (base := base) (rm := iw (rm : Int)) (hf := iw (hf : Int)) (wd := li ws) (bg := iw (base : Int)) n K.W (x9 := none) hok ws [] none K.hw List.nodup_nil (fun _ m => by cases m)
  refine (ev_seq (S1 := S ++ [stP hs base (ws.foldl put []), stO (ws.foldl put [])]) (ρ1 := r15 S hs (iw (rm : Int)) (iw (hf : Int)) (li ws) (iw (base : Int)) ((base + tot (F hs) (ws.foldl put []) : Nat) : Int) x8 none) ?_).trans ?_
  · unfold fFor
    rw [hit]
    exact lp
  refine (ev_seq (S1 := S ++ [stP hs base (ws.foldl put []), stO (ws.foldl put [])]) (ρ1 := r15 S hs (iw (rm : Int)) (iw (hf : Int)) (li ws) (iw (base : Int)) ((base + tot (F hs) (ws.foldl put []) : Nat) : Int) x8 (some (iw ((0 : Nat) : Int)))) rfl).trans ?_
  obtain ⟨y8, y9, lp2⟩ := scan_loop (S := S) (base := base) (rm := iw (rm : Int)) (hf := iw (hf : Int)) (wd := li ws) (bg := iw (base : Int)) n K.W 1000000 0 (ws.foldl put []) x8 (BI.start K.hw) (Nat.zero_le _) (by have := K.W.al; omega)
  have eo : C9.scan (F hs) 1000000 0 (ws.foldl put []) = o := by rw [K.o_eq]; rfl
  rw [eo] at lp2
  refine (ev_seq lp2).trans ?_
  have mz : gMulL (.d (.list [.int 0])) (iw (2 * (rm : Int))) (S ++ [stP hs base o, stO o]) = some (.loc (S.length + 2), S ++ [stP hs base o, stO o, .lst (ivs (Z (2 * rm)))]) := by
    rw [mul_zL (by omega), push3, List.length_append]
    have : (2 * (rm : Int)).toNat = 2 * rm := by omega
    rw [this]
    rfl
  have m2 : ∀ S', gMulA (iw 2) (iw (rm : Int)) S' = some (iw (2 * (rm : Int)), S') := fun S' => g_mul (by decide) (by omega)
  refine (ev_seq (S1 := S ++ [stP hs base o, stO o, .lst (ivs (Z (2 * rm)))]) (ρ1 := r15f S hs (iw (rm : Int)) (iw (hf : Int)) (li ws) (iw (base : Int)) ((base + tot (F hs) o : Nat) : Int) y8 y9 none none none none none) (ev_asg (ev_f2 rfl (ev_f2 rfl (ev_var rfl) (m2 _)) mz))).trans ?_
  have fz := Z_split (hs := hs) (o := o) (base := base) (rm := rm) (by omega)
  have hit2 : fItS (fVar 6) (r15f S hs (iw (rm : Int)) (iw (hf : Int)) (li ws) (iw (base : Int)) ((base + tot (F hs) o : Nat) : Int) y8 y9 none none none none none) (S ++ [stP hs base o, stO o, .lst (ivs (Z (2 * rm)))]) = .ok ⟨(ivs (nat o)).map W.d, fun S' => S'[S.length + 1]? = some (.lst (ivs (nat o)))⟩ (S ++ [stP hs base o, stO o, .lst (ivs (Z (2 * rm)))]) := by
    have h1 : (S ++ [stP hs base o, stO o, .lst (ivs (Z (2 * rm)))])[S.length + 1]? = some (.lst (ivs (nat o))) := at31
    unfold fItS
    rw [ev_var (show (r15f S hs (iw (rm : Int)) (iw (hf : Int)) (li ws) (iw (base : Int)) ((base + tot (F hs) o : Nat) : Int) y8 y9 none none none none none)[6]? = some (some (.loc (S.length + 1))) from rfl), R_ok]
    simp only [wkS, wkL, h1, seqR]
  obtain ⟨z11, z12, z13, z14, z15, lp3⟩ := fill_loop (S := S) (base := base) (rm := iw (rm : Int)) (hf := iw (hf : Int)) (wd := li ws) (bg := iw (base : Int)) (n + 1) K.W (o := o) (R2 := 2 * rm) (fr := ((base + tot (F hs) o : Nat) : Int)) (x8 := y8) (x9 := y9) O.nd O.sub K.wdo hbz (by omega) (ok := fun S' => S'[S.length + 1]? = some (.lst (ivs (nat o)))) (fun X => at31) o [] none none none none none rfl
  rw [← fz] at lp3
  refine (ev_seq (S1 := S ++ [stP hs base o, stO o, .lst (ivs (lay hs base o (2 * rm)))]) (ρ1 := r15f S hs (iw (rm : Int)) (iw (hf : Int)) (li ws) (iw (base : Int)) ((base + tot (F hs) o : Nat) : Int) y8 y9 z11 z12 z13 z14 z15) ?_).trans ?_
  · unfold fFor
    rw [hit2]
    exact lp3
  have lc := rl_all (hs := hs) (base := base) (o := o) (ρ := r15f S hs (iw (rm : Int)) (iw (hf : Int)) (li ws) (iw (base : Int)) ((base + tot (F hs) o : Nat) : Int) y8 y9 z11 z12 z13 z14 z15) (S := S ++ [stP hs base o, stO o, .lst (ivs (lay hs base o (2 * rm)))]) (p := S.length) (d := 5) (i := 16) (a := fVar 3) (xs := ws) (ev_var rfl) (.inl rfl) rfl (by decide) (by show 16 < 17; decide) at30 K.wdr (by omega) O.nd (by have := K.lw; omega)
  exact ev_ret (ev_L (ev_ac (ev_var rfl) (ev_ac (ev_var rfl) (ev_one lc))) rfl)
end
end Q9
end VI
set_option Elab.async false
set_option linter.all false
set_option maxRecDepth 100000
namespace VI
open PySem PySem.Spec PyProof.Rows L2
namespace Q9
open C9

theorem nd_snoc {o : List Nat} {a : Nat} (nd : o.Nodup) (h : a ∉ o) : (o ++ [a]).Nodup := List.nodup_append.mpr ⟨nd, by simp, fun x hx y hy e => h (by rw [List.mem_singleton.mp hy] at e; rw [← e]; exact hx)⟩
theorem tot_erase {F : Nat → List Int} {a : Nat} : ∀ {A : List Nat}, a ∈ A → tot F (A.erase a) + (1 + (F a).length) = tot F A
  | [], h => by cases h
  | x :: A, h => by
    by_cases e : x = a
    · subst e
      rw [List.erase_cons_head, tot_cons]
      omega
    · rw [List.erase_cons_tail (by rw [beq_iff_eq]; exact e), tot_cons, tot_cons]
      have := tot_erase (F := F) ((List.mem_cons.mp h).resolve_left (fun q => e q.symm))
      omega
theorem tot_sub {F : Nat → List Int} : ∀ {o A : List Nat}, o.Nodup → (∀ a ∈ o, a ∈ A) → tot F o ≤ tot F A
  | [], _, _, _ => Nat.zero_le _
  | a :: o, A, nd, h => by
    have n' := List.nodup_cons.mp nd
    have := tot_sub (F := F) (A := A.erase a) n'.2 fun b m => (List.mem_erase_of_ne (a := b) (b := a) (fun (e : b = a) => n'.1 (by rw [← e]; exact m))).mpr (h b (List.mem_cons_of_mem _ m))
    have := tot_erase (F := F) (h a (by simp))
    rw [tot_cons]
    omega
/-! the program's mover -/
def rawb (hs : List Int) (a : Nat) : List Int := hs.getD a 0 :: F hs a
def raw (hs : List Int) (xs : List Nat) : List Int := xs.flatMap (rawb hs)
theorem raw_app {hs : List Int} {xs ys : List Nat} : raw hs (xs ++ ys) = raw hs xs ++ raw hs ys := List.flatMap_append ..
theorem raw_one {hs : List Int} {a : Nat} : raw hs [a] = rawb hs a := by unfold raw; simp
theorem rawb_len {hs : List Int} {a : Nat} : (rawb hs a).length = 1 + (F hs a).length := by unfold rawb; rw [List.length_cons]; omega
theorem raw_len {hs : List Int} : ∀ xs : List Nat, (raw hs xs).length = tot (F hs) xs
  | [] => rfl
  | a :: xs => by
    rw [show a :: xs = [a] ++ xs from rfl, raw_app, raw_one, List.length_append, rawb_len, raw_len xs, tot_append, tot_one]
def obF (hs : List Int) (base k : Nat) : List (Str × W) := [("words", ti hs), ("start", iw 0), ("target", iw (base : Int)), ("moved", .loc k), ("found", .loc (k + 1))]
def mv (S : Store) (hs : List Int) (base : Nat) (M : List Int) (o : List Nat) (T : Store) : Store := S ++ (.lst (ivs M) :: stP hs base o :: .ob "Moving" (obF hs base S.length) :: T)
section
variable {S T : Store} {hs : List Int} {A : List Nat} {base : Nat} {M M2 : List Int} {o o2 : List Nat}
theorem mv0 : (mv S hs base M o T)[S.length]? = some (.lst (ivs M)) := by unfold mv; rw [List.getElem?_append_right (Nat.le_refl _)]; simp
theorem mv1 : (mv S hs base M o T)[S.length + 1]? = some (stP hs base o) := by unfold mv; rw [List.getElem?_append_right (by omega)]; simp
theorem mv2 : (mv S hs base M o T)[S.length + 2]? = some (.ob "Moving" (obF hs base S.length)) := by unfold mv; rw [List.getElem?_append_right (by omega)]; simp
theorem mv_len : (mv S hs base M o T).length = S.length + 3 + T.length := by unfold mv; rw [List.length_append]; simp; omega
theorem mv_set0 : (mv S hs base M o T).set S.length (.lst (ivs M2)) = mv S hs base M2 o T := by unfold mv; rw [List.set_append_right _ _ (Nat.le_refl _)]; simp
theorem mv_set1 : (mv S hs base M o T).set (S.length + 1) (stP hs base o2) = mv S hs base M o2 T := by unfold mv; rw [List.set_append_right _ _ (by omega)]; simp
theorem fld_words : gFld "Moving" "words" (.loc (S.length + 2)) (mv S hs base M o T) = some (ti hs, mv S hs base M o T) := by unfold gFld; simp only [mv2, if_pos rfl]; rfl
theorem fld_start : gFld "Moving" "start" (.loc (S.length + 2)) (mv S hs base M o T) = some (iw 0, mv S hs base M o T) := by unfold gFld; simp only [mv2, if_pos rfl]; rfl
theorem fld_target : gFld "Moving" "target" (.loc (S.length + 2)) (mv S hs base M o T) = some (iw (base : Int), mv S hs base M o T) := by unfold gFld; simp only [mv2, if_pos rfl]; rfl
theorem fld_moved : gFld "Moving" "moved" (.loc (S.length + 2)) (mv S hs base M o T) = some (.loc S.length, mv S hs base M o T) := by unfold gFld; simp only [mv2, if_pos rfl]; rfl
theorem fld_found : gFld "Moving" "found" (.loc (S.length + 2)) (mv S hs base M o T) = some (.loc (S.length + 1), mv S hs base M o T) := by unfold gFld; simp only [mv2, if_pos rfl]; rfl
theorem isOb_w : isOb "Moving" "moved_word" (.loc (S.length + 2)) (mv S hs base M o T) = true := by unfold isOb; simp only [mv2]; rfl
theorem isOb_m : isOb "Moving" "move" (.loc (S.length + 2)) (mv S hs base M o T) = true := by unfold isOb; simp only [mv2]; rfl
theorem cut_raw {a : Nat} {S' : Store} (h : a < hs.length) : gSlA (ti hs) (some (a : Int)) (some ((a : Int) + ((many (hs.getD a 0) : Int) + 1))) S' = some (ti (rawb hs a), S') := by
  show some (tu (cutG (ivs hs) (some (a : Int)) (some ((a : Int) + ((many (hs.getD a 0) : Int) + 1)))), S') = _
  have c := sIx_cut (ivs hs) a (a + (many (hs.getD a 0) + 1))
  rw [Nat.add_sub_cancel_left] at c
  have e1 : ivs (rawb hs a) = ((ivs hs).drop a).take (many (hs.getD a 0) + 1) := by
    unfold ivs
    rw [← List.map_drop, ← List.map_take]
    congr 1
    rw [List.drop_eq_getElem_cons h, List.take_succ_cons]
    unfold rawb F
    rw [List.getD_eq_getElem?_getD, List.getElem?_eq_getElem h]
    rfl
  have e2 : cutG (ivs hs) (some (a : Int)) (some ((a : Int) + ((many (hs.getD a 0) : Int) + 1))) = ivs (rawb hs a) := by
    rw [e1, ← c]
    rfl
  rw [e2]
theorem k_moved (n : Nat) {w : Int} (W : WF hs A) (hw : Wd A w) (nd : o.Nodup) (sub : ∀ a ∈ o, a ∈ A) (hM : M.length = tot (F hs) o) (hz : base ≤ 10000) :
    callN (n + 3) 5 [.loc (S.length + 2), iw w] (mv S hs base M o T) = .ok (iw (rel (F hs) base (put o w) w)) (mv S hs base (M ++ raw hs ((put o w).drop o.length)) (put o w) T) := by
  show toR (b5 (callN (n + 2)) [some (.loc (S.length + 2)), some (iw w), none, none] (mv S hs base M o T)) = _
  have md : ∀ S', gMod (iw w) (iw 2) S' = some (iw (w % 2), S') := fun S' => g_modI (by decide)
  have hl : o.length ≤ 5000 := by have := sub_len nd sub; have := W.al; omega
  rcases hw with z | ⟨a, ma, rfl⟩
  · rw [put_odd z, rel_odd z, List.drop_length, show raw hs [] = [] from rfl, List.append_nil]
    unfold b5
    refine ret_ok (ev_seqR ((ev_yes (S1 := mv S hs base M o T) (ev_test (ev_f2 (ev_f2 (ev_var rfl) rfl (md _)) rfl ?_))).trans (ev_ret (ev_var rfl))))
    rw [g_eqI, decide_eq_true z]
  · have e2 : 2 * (a : Int) / 2 = a := by omega
    have e3 : 2 * (a : Int) % 2 = 0 := by omega
    unfold b5
    refine ret_ok ((ev_seq (ρ1 := [some (.loc (S.length + 2)), some (iw (2 * (a : Int))), none, none]) (S1 := mv S hs base M o T) ((ev_no (S1 := mv S hs base M o T) (ev_test (ev_f2 (ev_f2 (ev_var rfl) rfl (md _)) rfl ?_))).trans rfl)).trans ?_)
    · rw [g_eqI, e3]
      rfl
    refine (ev_seq (ρ1 := [some (.loc (S.length + 2)), some (iw (2 * (a : Int))), some (iw (a : Int)), none]) (S1 := mv S hs base M o T) (ev_asg (ev_f2 (ev_var rfl) rfl (by rw [g_divI (by decide), e2])))).trans ?_
    have din : gNotInD (iw (a : Int)) (.loc (S.length + 1)) (mv S hs base M o T) = some (bt (!decide (a ∈ o)), mv S hs base M o T) := by
      have h0 : (mv S hs base M o T)[S.length + 1]? = some (.dK (kz (pz (plc (F hs) base o)))) := mv1
      rw [d_notIn h0, decide_eq_decide.mpr pz_mem]
    have tst : ∀ x, fTest (f2 gNotInD (fVar 2) (f1 (gFld "Moving" "found") (fVar 0))) [some (.loc (S.length + 2)), some (iw (2 * (a : Int))), some (iw (a : Int)), x] (mv S hs base M o T) = .ok (!decide (a ∈ o)) (mv S hs base M o T) := fun x => ev_test (ev_f2 (ev_var rfl) (ev_f1 (ev_var rfl) fld_found) din)
    have fin : ∀ (x : Option VI.W) (M' : List Int) (o' : List Nat), a ∈ o' → o'.Nodup → tot (F hs) o' ≤ 6000 → fRet (f2 gMulA (fC (.int 2)) (f2 gIxA (f1 (gFld "Moving" "found") (fVar 0)) (fVar 2))) [some (.loc (S.length + 2)), some (iw (2 * (a : Int))), some (iw (a : Int)), x] (mv S hs base M' o' T) = .ret (iw (rel (F hs) base o' (2 * (a : Int)))) (mv S hs base M' o' T) := fun x M' o' m' nd' hz' => by
      have ix : gIxA (.loc (S.length + 1)) (iw (a : Int)) (mv S hs base M' o' T) = some (iw (pos (F hs) base o' a : Int), mv S hs base M' o' T) := d_get (v := .int _) mv1 (pz_pos m')
      have pl := (pos_lt (F := F hs) (base := base) nd' m').2
      rw [rel_even]
      exact ev_ret (ev_f2 rfl (ev_f2 (ev_f1 (ev_var rfl) fld_found) (ev_var rfl) ix) (g_mul (by decide) (by omega)))
    have ts := tot_rest_le (F := F hs) (found := []) (A := A)
    have wz := W.sz
    by_cases ho : a ∈ o
    · rw [put_old ho, List.drop_length, show raw hs [] = [] from rfl, List.append_nil]
      have t0 := tst none
      rw [decide_eq_true ho] at t0
      exact (ev_seq ((ev_no t0).trans rfl)).trans (fin none M o ho nd (by have := tot_sub nd sub (F := F hs); omega))
    · rw [put_new ho, List.drop_left, raw_one]
      have t0 := tst none
      rw [decide_eq_false ho] at t0
      have nd' : (o ++ [a]).Nodup := nd_snoc nd ho
      have sub' : ∀ b ∈ o ++ [a], b ∈ A := fun b m => by
        rcases List.mem_append.mp m with m | m
        · exact sub b m
        · rw [List.mem_singleton.mp m]; exact ma
      have tt := tot_sub nd' sub' (F := F hs)
      have tp : tot (F hs) (o ++ [a]) = tot (F hs) o + (1 + (F hs a).length) := by rw [tot_append, tot_one]
      refine (ev_seq (ρ1 := [some (.loc (S.length + 2)), some (iw (2 * (a : Int))), some (iw (a : Int)), some (iw (a : Int))]) (S1 := mv S hs base (M ++ rawb hs a) (o ++ [a]) T) ((ev_yes t0).trans ?_)).trans (fin _ _ _ (by simp) nd' (by omega))
      have ln : gLen [.loc S.length] (mv S hs base M o T) = some (iw (M.length : Int), mv S hs base M o T) := by rw [len_l mv0, ivs_len]
      have ad : gAdd (iw (base : Int)) (iw (M.length : Int)) (mv S hs base M o T) = some (iw ((base + tot (F hs) o : Nat) : Int), mv S hs base M o T) := by
        rw [g_addI, hM]
        rfl
      have pt : fDput (f2 gAdd (f1 (gFld "Moving" "target") (fVar 0)) (fL gLen (fAc (f1 (gFld "Moving" "moved") (fVar 0)) fA0))) (f1 (gFld "Moving" "found") (fVar 0)) (fVar 2) [some (.loc (S.length + 2)), some (iw (2 * (a : Int))), some (iw (a : Int)), none] (mv S hs base M o T) = .next [some (.loc (S.length + 2)), some (iw (2 * (a : Int))), some (iw (a : Int)), none] (mv S hs base M (o ++ [a]) T) := by
        have h0 : (mv S hs base M o T)[S.length + 1]? = some (.dK (kz (pz (plc (F hs) base o)))) := mv1
        rw [ev_dput (i := (a : Int)) (v := .int ((base + tot (F hs) o : Nat) : Int)) (l := S.length + 1) (ev_f2 (ev_f1 (ev_var rfl) fld_target) (ev_L (ev_one (ev_f1 (ev_var rfl) fld_moved)) ln) ad) (ev_f1 (ev_var rfl) fld_found) (ev_var rfl) h0 (by rw [pz_len]; omega) (fun m => ho (pz_mem.mp m)), ← stP_new, mv_set1]
      refine (ev_seq pt).trans ?_
      refine (ev_seq (ρ1 := [some (.loc (S.length + 2)), some (iw (2 * (a : Int))), some (iw (a : Int)), some (iw (a : Int))]) (S1 := mv S hs base M (o ++ [a]) T) (ev_asg (ev_f2 (ev_var rfl) (ev_f1 (ev_var rfl) fld_start) (by rw [g_subI, Int.sub_zero])))).trans ?_
      have f1_ : fCall 2 (callN (n + 2) 1) (fAc (f1 (gFld "Moving" "words") (fVar 0)) (fAc (fVar 3) fA0)) [some (.loc (S.length + 2)), some (iw (2 * (a : Int))), some (iw (a : Int)), some (iw (a : Int))] (mv S hs base M (o ++ [a]) T) = .ok (iw ((many (hs.getD a 0) : Int) + 1)) (mv S hs base M (o ++ [a]) T) :=
        fcall_at (ws := [ti hs, iw (a : Int)]) (ev_ac (ev_f1 (ev_var rfl) fld_words) (ev_one (ev_var rfl))) (k_size n (W.lt ma)) rfl rfl
      have sl : fSl gSlA (f1 (gFld "Moving" "words") (fVar 0)) (fPart (fVar 3)) (fPart (f2 gAdd (fVar 3) (fCall 2 (callN (n + 2) 1) (fAc (f1 (gFld "Moving" "words") (fVar 0)) (fAc (fVar 3) fA0))))) [some (.loc (S.length + 2)), some (iw (2 * (a : Int))), some (iw (a : Int)), some (iw (a : Int))] (mv S hs base M (o ++ [a]) T) = .ok (ti (rawb hs a)) (mv S hs base M (o ++ [a]) T) := by
        have ea := ev_f2 (g := gAdd) (ev_var (i := 3) (ρ := [some (.loc (S.length + 2)), some (iw (2 * (a : Int))), some (iw (a : Int)), some (iw (a : Int))]) (S := mv S hs base M (o ++ [a]) T) rfl) f1_ g_addI
        have ew : f1 (gFld "Moving" "words") (fVar 0) [some (.loc (S.length + 2)), some (iw (2 * (a : Int))), some (iw (a : Int)), some (iw (a : Int))] (mv S hs base M (o ++ [a]) T) = .ok (ti hs) (mv S hs base M (o ++ [a]) T) := ev_f1 (ev_var rfl) fld_words
        have ev3 : fVar 3 [some (.loc (S.length + 2)), some (iw (2 * (a : Int))), some (iw (a : Int)), some (iw (a : Int))] (mv S hs base M (o ++ [a]) T) = .ok (iw (a : Int)) (mv S hs base M (o ++ [a]) T) := ev_var rfl
        unfold fSl fPart
        have io : ∀ (i : Int) S', intOf (iw i) S' = .ok (some i) S' := fun _ _ => rfl
        simp only [ew, ev3, R_ok, io, ea, cut_raw (W.lt ma)]
        rfl
      refine ev_drop (x := .d .none) (ev_meth (ev_f1 (ev_var rfl) fld_moved) (live_l mv0) (ev_one (ev_L (ws := [ti (rawb hs a)]) (ev_one sl) rfl)) ?_)
      rw [m_ext mv0 (by rw [ivs_len, ivs_len, rawb_len]; omega), ← ivs_app, mv_set0]
end
end Q9
end VI
set_option Elab.async false
set_option linter.all false
set_option maxRecDepth 100000
namespace VI
open PySem PySem.Spec PyProof.Rows L2
namespace Q9
open C9

theorem ev_methC {nm m : Str} {n : Nat} {g : List W → Store → R W} {fo : FE} {fa : FA} {ρ : Rho} {S S1 S2 S3 : Store} {o : W} {ws : List W} {x : PyData} (eo : fo ρ S = .ok o S1) (hi : isOb nm m o S1 = true) (ea : fa ρ S1 = .ok ws S2) (eg : g (o :: ws) S2 = .ok (.d x) S3) (hz : S3.length = S2.length) (hn : ws.length + 1 = n := by rfl) : fMethC nm m n g fo fa ρ S = .ok (.d x) S3 := by
  unfold fMethC
  rw [eo, R_ok, if_pos hi, ea, R_ok, if_pos hn, eg]
  show R.ok (W.d x) (S3.take S2.length) = _
  rw [← hz, List.take_length]
theorem rangeW_cons (lo : Int) (n : Nat) : rangeW lo (n + 1) = iw lo :: rangeW (lo + 1) n := by
  unfold rangeW
  rw [List.range_succ_eq_map, List.map_cons, List.map_map]
  congr 1
  · simp
  · apply List.map_congr_left
    intro i _
    show W.d (.int (lo + ((i + 1 : Nat) : Int))) = _
    rw [show lo + ((i + 1 : Nat) : Int) = lo + 1 + (i : Int) by omega]
theorem noX_okW {α : Type} {x : α} {S : Store} : noX (R.ok x S) = .ok x S := rfl
theorem frz_same {n : Nat} {x : PyData} {S : Store} (h : S.length = n) : frz n (.ok (.d x) S) = .ok (.d x) S := by
  show R.ok (W.d x) (S.take n) = _
  rw [← h, List.take_length]
theorem lc_step {ok : Store → Prop} {g : FG} {el : FE} {ρ ρ1 : Rho} {l : Nat} {w : W} {ws : List W} {S S2 S3 : Store} {x : PyData} (hok : ok S) (hg : g w ρ = some ρ1) (he : el ρ1 S = .ok (.d x) S2) (hz : S2.length = S.length) (hp : lcPut l (.d x) S2 = some S3) : lcL ok g fYes el ρ l (w :: ws) S = lcL ok g fYes el ρ l ws S3 := by
  have fy : fYes ρ1 S = .ok true S := rfl
  rw [lcL, if_pos hok, hg]
  simp only [fy, noX_okW, R_ok, if_true, he, frz_same hz, hp]
theorem put_pre (o : List Nat) (w : Int) : ∃ r, put o w = o ++ r := by
  unfold put
  split
  · exact ⟨_, rfl⟩
  · exact ⟨[], by simp⟩
theorem puts_pre : ∀ (ws : List Int) (o : List Nat), ∃ r, ws.foldl put o = o ++ r
  | [], o => ⟨[], by simp⟩
  | w :: ws, o => by
    obtain ⟨r1, e1⟩ := put_pre o w
    obtain ⟨r2, e2⟩ := puts_pre ws (put o w)
    exact ⟨r1 ++ r2, by rw [List.foldl_cons, e2, e1, List.append_assoc]⟩
theorem put_ok {A o : List Nat} {w : Int} (nd : o.Nodup) (sub : ∀ a ∈ o, a ∈ A) (hw : Wd A w) : PutI A o (put o w) [w] := puts_ok (ws := [w]) nd sub (fun v m => by rw [List.mem_singleton.mp m]; exact hw)
theorem put_wd {A o : List Nat} {w : Int} (nd : o.Nodup) (sub : ∀ a ∈ o, a ∈ A) (hw : Wd A w) : Wd (put o w) w := by
  rcases hw with z | ⟨a, ma, rfl⟩
  · exact .inl z
  · exact .inr ⟨a, ((put_ok nd sub (.inr ⟨a, ma, rfl⟩)).mem a).mpr (.inr (by simp)), rfl⟩
theorem rel_puts {F : Nat → List Int} {base : Nat} {A o : List Nat} {w : Int} {ws : List Int} (nd : o.Nodup) (sub : ∀ a ∈ o, a ∈ A) (hw : Wd A w) : rel F base (ws.foldl put (put o w)) w = rel F base (put o w) w := by
  obtain ⟨r, e⟩ := puts_pre ws (put o w)
  rw [e, rel_app (put_wd nd sub hw)]
section
variable {S T : Store} {hs : List Int} {A : List Nat} {base : Nat}
noncomputable abbrev mwE (call : Calls) : FE := fMethC "Moving" "moved_word" 2 (call 5) (fVar 0) (fAc (fVar 3) fA0)
theorem told_lc (n : Nat) (W : WF hs A) (hb : base ≤ 10000) {R : VI.W} {ok : Store → Prop} (hok : ∀ S, ok S) : ∀ (ws acc : List Int) (o : List Nat), (∀ w ∈ ws, Wd A w) → o.Nodup → (∀ a ∈ o, a ∈ A) → acc.length + ws.length < 1000000 →
    lcL ok (gtName 3) fYes (mwE (callN (n + 3))) [some (.loc (S.length + 2)), some R, none, none, none, none, none] (S.length + 3) ((ivs ws).map VI.W.d) (mv S hs base (raw hs o) o [.lst (ivs acc)]) =
      .ok (.loc (S.length + 3)) (mv S hs base (raw hs (ws.foldl put o)) (ws.foldl put o) [.lst (ivs (acc ++ ws.map (rel (F hs) base (ws.foldl put o))))])
  | [], acc, o, _, _, _, _ => by
    show lcL _ _ _ _ _ _ [] _ = _
    rw [lcL, if_pos (hok _), List.map_nil, List.append_nil]
    rfl
  | w :: ws, acc, o, h, nd, sub, hz => by
    have hw := h w (by simp)
    have P := put_ok nd sub hw
    have ih := told_lc n W hb (R := R) hok ws (acc ++ [rel (F hs) base (put o w) w]) (put o w) (fun v m => h v (List.mem_cons_of_mem _ m)) P.nd P.sub (by rw [List.length_append]; rw [List.length_cons] at hz; simp; omega)
    have el : mwE (callN (n + 3)) [some (.loc (S.length + 2)), some R, none, some (iw w), none, none, none] (mv S hs base (raw hs o) o [.lst (ivs acc)]) = .ok (iw (rel (F hs) base (put o w) w)) (mv S hs base (raw hs (put o w)) (put o w) [.lst (ivs acc)]) := by
      have k := k_moved (S := S) (T := [.lst (ivs acc)]) (M := raw hs o) n W hw nd sub (raw_len o) hb
      have e : raw hs o ++ raw hs ((put o w).drop o.length) = raw hs (put o w) := by
        obtain ⟨r, e⟩ := put_pre o w
        rw [← raw_app, e, List.drop_left]
      rw [e] at k
      exact ev_methC (ev_var rfl) isOb_w (ev_one (ev_var rfl)) k (by rw [mv_len, mv_len])
    have hp : lcPut (S.length + 3) (iw (rel (F hs) base (put o w) w)) (mv S hs base (raw hs (put o w)) (put o w) [.lst (ivs acc)]) = some (mv S hs base (raw hs (put o w)) (put o w) [.lst (ivs (acc ++ [rel (F hs) base (put o w) w]))]) := by
      have h3 : (mv S hs base (raw hs (put o w)) (put o w) [.lst (ivs acc)])[S.length + 3]? = some (.lst (ivs acc)) := by unfold mv; rw [List.getElem?_append_right (by omega)]; simp
      unfold lcPut
      simp only [h3]
      rw [if_pos (show (ivs acc).length < lim by rw [ivs_len]; show _ < 16777216; rw [List.length_cons] at hz; omega)]
      unfold mv
      rw [List.set_append_right _ _ (by omega), ivs_app]
      simp
      rfl
    refine (lc_step (hok _) rfl el (by rw [mv_len, mv_len]) hp).trans ?_
    refine ih.trans ?_
    rw [List.append_assoc, List.foldl_cons, List.map_cons, rel_puts nd sub hw]
    rfl
abbrev r6 (S : Store) (R tl : VI.W) (x3 : Option VI.W) (at_ : Int) (x5 x6 : Option VI.W) : Rho := [some (.loc (S.length + 2)), some R, some tl, x3, some (iw at_), x5, x6]
noncomputable abbrev ib6 (call : Calls) : FS := (fStore (fMethC "Moving" "moved_word" 2 (call 5) (fVar 0) (fAc (f2 gIx (f1 (gFld "Moving" "moved") (fVar 0)) (fVar 6)) fA0)) (f1 (gFld "Moving" "moved") (fVar 0)) (fVar 6))
theorem ixN_at {n k : Nat} (h : k < n) : ixN n (k : Int) = some k := by
  unfold ixN
  rw [if_pos (by omega), if_pos (by omega), Int.toNat_natCast]
theorem scan_in (n : Nat) (W : WF hs A) (hb : base ≤ 10000) {R tl : VI.W} {at_ : Int} {x5 : Option VI.W} : ∀ (todo pre post : List Int) (o : List Nat) (x6 : Option VI.W), (∀ w ∈ todo, Wd A w) → o.Nodup → (∀ a ∈ o, a ∈ A) → (pre ++ todo ++ post).length = tot (F hs) o →
    ∃ x6', forL (fun _ => True) (gtName 6) (ib6 (callN (n + 3))) (rangeW (pre.length : Int) todo.length) (r6 S R tl none at_ x5 x6) (mv S hs base (pre ++ todo ++ post) o []) =
      .next (r6 S R tl none at_ x5 x6') (mv S hs base (pre ++ todo.map (rel (F hs) base (todo.foldl put o)) ++ post ++ raw hs ((todo.foldl put o).drop o.length)) (todo.foldl put o) [])
  | [], pre, post, o, x6, _, _, _, _ => ⟨x6, by
    show forL _ _ _ [] _ _ = _
    rw [forL, if_pos trivial, List.foldl_nil, List.drop_length, show raw hs [] = [] from rfl, List.map_nil, List.append_nil, List.append_nil]⟩
  | w :: todo, pre, post, o, x6, h, nd, sub, hl => by
    have hw := h w (by simp)
    have P := put_ok nd sub hw
    obtain ⟨r1, e1⟩ := put_pre o w
    have hl2 : ((pre ++ [rel (F hs) base (put o w) w]) ++ todo ++ (post ++ raw hs ((put o w).drop o.length))).length = tot (F hs) (put o w) := by
      rw [e1, List.drop_left, tot_append, ← hl]
      simp only [List.length_append, List.length_cons, List.length_nil, raw_len]
      omega
    obtain ⟨x6', ih⟩ := scan_in n W hb (R := R) (tl := tl) (at_ := at_) (x5 := x5) todo (pre ++ [rel (F hs) base (put o w) w]) (post ++ raw hs ((put o w).drop o.length)) (put o w) (some (iw (pre.length : Int))) (fun v m => h v (List.mem_cons_of_mem _ m)) P.nd P.sub hl2
    refine ⟨x6', ?_⟩
    have gi : (ivs (pre ++ (w :: todo) ++ post))[pre.length]? = some (.int w) := by
      unfold ivs
      rw [List.getElem?_map, List.append_assoc, List.getElem?_append_right (Nat.le_refl _), Nat.sub_self]
      rfl
    have ix : gIx (.loc S.length) (iw (pre.length : Int)) (mv S hs base (pre ++ (w :: todo) ++ post) o []) = some (iw w, mv S hs base (pre ++ (w :: todo) ++ post) o []) := g_ixl mv0 gi
    have k := k_moved (S := S) (T := []) (M := pre ++ (w :: todo) ++ post) n W hw nd sub hl hb
    have st : ib6 (callN (n + 3)) (r6 S R tl none at_ x5 (some (iw (pre.length : Int)))) (mv S hs base (pre ++ (w :: todo) ++ post) o []) = .next (r6 S R tl none at_ x5 (some (iw (pre.length : Int)))) (mv S hs base ((pre ++ [rel (F hs) base (put o w) w]) ++ todo ++ (post ++ raw hs ((put o w).drop o.length))) (put o w) []) := by
      refine ev_store (i := iw (pre.length : Int)) (o := .loc S.length) (ev_methC (ev_var rfl) isOb_w (ev_one (ev_f2 (ev_f1 (ev_var rfl) fld_moved) (ev_var rfl) ix)) k (by rw [mv_len, mv_len])) (ev_f1 (ev_var rfl) fld_moved) (ev_var rfl) ?_
      unfold gSet
      simp only [mv0]
      rw [ixN_at (by rw [ivs_len]; simp)]
      show some ((mv S hs base _ (put o w) []).set S.length (.lst ((ivs _).set pre.length (.int _)))) = _
      have e : (ivs (pre ++ (w :: todo) ++ post ++ raw hs ((put o w).drop o.length))).set pre.length (.int (rel (F hs) base (put o w) w)) = ivs ((pre ++ [rel (F hs) base (put o w) w]) ++ todo ++ (post ++ raw hs ((put o w).drop o.length))) := by
        have lp : (ivs pre).length = pre.length := ivs_len _
        simp only [List.append_assoc, List.cons_append, List.nil_append, ivs_app]
        rw [List.set_append_right _ _ (Nat.le_of_eq lp), lp, Nat.sub_self]
        simp only [show ∀ (x : Int) (xs : List Int), ivs (x :: xs) = .int x :: ivs xs from fun _ _ => rfl, ivs_app]
        rfl
      rw [e, mv_set0]
    rw [show (w :: todo).length = todo.length + 1 from rfl, rangeW_cons, forL, if_pos trivial]
    show (match ib6 (callN (n + 3)) (r6 S R tl none at_ x5 (some (iw (pre.length : Int)))) (mv S hs base (pre ++ (w :: todo) ++ post) o []) with
      | .next ρ2 S2 => forL (fun _ => True) (gtName 6) (ib6 (callN (n + 3))) (rangeW ((pre.length : Int) + 1) todo.length) ρ2 S2
      | .cnt ρ2 S2 => forL (fun _ => True) (gtName 6) (ib6 (callN (n + 3))) (rangeW ((pre.length : Int) + 1) todo.length) ρ2 S2
      | .brk ρ2 S2 => .next ρ2 S2
      | r => r) = _
    rw [st]
    have el : ((pre ++ [rel (F hs) base (put o w) w]).length : Int) = (pre.length : Int) + 1 := by simp
    rw [el] at ih
    refine ih.trans ?_
    obtain ⟨r2, e2⟩ := puts_pre todo (put o w)
    have ee : pre ++ [rel (F hs) base (put o w) w] ++ todo.map (rel (F hs) base (todo.foldl put (put o w))) ++ (post ++ raw hs ((put o w).drop o.length)) ++ raw hs ((todo.foldl put (put o w)).drop (put o w).length) = pre ++ (w :: todo).map (rel (F hs) base ((w :: todo).foldl put o)) ++ post ++ raw hs (((w :: todo).foldl put o).drop o.length) := by
      rw [List.foldl_cons, List.map_cons, rel_puts nd sub hw, e2, List.drop_left, e1, List.append_assoc o r1 r2, List.drop_left, List.drop_left, raw_app]
      simp only [List.append_assoc, List.cons_append, List.nil_append]
    rw [ee]
    rfl
end
end Q9
end VI
set_option Elab.async false
set_option linter.all false
set_option maxRecDepth 100000
namespace VI
open PySem PySem.Spec PyProof.Rows L2
namespace Q9
open C9

theorem datas_map : ∀ ds : List PyData, datas (ds.map W.d) = some ds
  | [] => rfl
  | d :: ds => by
    rw [List.map_cons]
    unfold datas
    rw [datas_map ds]
    rfl
theorem g_catT {xs ys : List PyData} {S : Store} (h : xs.length + ys.length ≤ 16777216) : gAdd (tu xs) (tu ys) S = some (tu (xs ++ ys), S) := by
  have e1 : asL (tu xs) S = none := rfl
  unfold gAdd
  simp only [e1, asTW, List.length_map]
  rw [if_pos (show xs.length + ys.length ≤ lim from h), ← List.map_append]
  unfold mkT
  rw [datas_map]
theorem mul_zT {S : Store} {k : Int} (h : 0 ≤ k ∧ k ≤ 100000) : gMulC (tu [.int 0]) (iw k) S = some (ti (Z k.toNat), S) := by
  have e : ∀ n : Nat, (List.replicate n [PyData.int 0]).flatten = ivs (Z n) := fun n => by
    unfold ivs Z
    rw [List.map_replicate]
    induction n with
    | zero => rfl
    | succ n ih => rw [List.replicate_succ, List.flatten_cons, ih, List.replicate_succ]; rfl
  unfold gMulC
  by_cases h1 : k = 1
  · subst h1
    rfl
  · have e1 : gRep1 (tu [.int 0]) (iw k) S = none := by
      unfold gRep1
      exact if_neg h1
    rw [e1]
    by_cases h2 : 2 ≤ k
    · have e2 : gRepTA (tu [.int 0]) (iw k) S = some (ti (Z k.toNat), S) := by
        unfold gRepTA
        simp only
        rw [if_pos ⟨by simp, h2, by show 1 * k.toNat ≤ 1000000; omega⟩, e]
      simp only [e2]
    · have e2 : gRepTA (tu [.int 0]) (iw k) S = none := by
        unfold gRepTA
        simp only
        rw [if_neg (fun q => h2 q.2.1)]
      have e3 : gRepT0 (tu [.int 0]) (iw k) S = some (ti (Z k.toNat), S) := by
        unfold gRepT0
        simp only
        rw [if_pos ⟨by simp, by omega, by omega⟩]
        have : k.toNat = 0 := by omega
        rw [this]
        rfl
      simp only [e2, e3]
section
variable {S T : Store} {hs : List Int} {A : List Nat} {base : Nat}
theorem mv_take {M : List Int} {o : List Nat} : (mv S hs base M o T).take (S.length + 3) = mv S hs base M o [] := by
  unfold mv
  simp [List.take_append]
  exact List.take_of_length_le (by omega)
noncomputable abbrev cb6 : FT := (fTest (f2 gLt (fVar 4) (fL gLen (fAc (f1 (gFld "Moving" "moved") (fVar 0)) fA0))))
noncomputable abbrev wb6 (call : Calls) : FS := (fSeq (fAsg (f2 gAdd (f2 gAdd (fVar 4) (fC (.int 1))) (f2 gIx (fCall 1 (call 0) (fAc (f2 gIx (f1 (gFld "Moving" "moved") (fVar 0)) (fVar 4)) fA0)) (fC (.int 2)))) (gtName 5)) (fSeq (fFor (fRng rng2 (fAc (f2 gAdd (fVar 4) (fC (.int 1))) (fAc (fVar 5) fA0))) (gtName 6) (ib6 call)) (fAsg (fVar 5) (gtName 4))))
theorem flat_stable {o r : List Nat} : ∀ xs : List Nat, (∀ b ∈ xs, ∀ w ∈ F hs b, Wd o w) → flat hs base (o ++ r) xs = flat hs base o xs
  | [], _ => rfl
  | b :: xs, h => by
    rw [flat_cons, flat_cons, flat_stable xs (fun c m => h c (List.mem_cons_of_mem _ m))]
    congr 1
    unfold rblk
    congr 1
    exact List.map_congr_left fun w m => rel_app (h b (by simp) w m)
theorem move_loop (n : Nat) {ws : List Int} (W : WF hs A) (hb : base ≤ 10000) {R tl : VI.W} : ∀ (m i : Nat) (o : List Nat) (x5 x6 : Option VI.W), BI (F hs) A ws o i → i ≤ o.length → A.length < m + i →
    ∃ at' x5' x6', whileL cb6 (wb6 (callN (n + 3))) m (r6 S R tl none (tot (F hs) (o.take i) : Int) x5 x6) (mv S hs base (flat hs base o (o.take i) ++ raw hs (o.drop i)) o []) =
      .next (r6 S R tl none at' x5' x6') (mv S hs base (flat hs base (C9.scan (F hs) m i o) (C9.scan (F hs) m i o)) (C9.scan (F hs) m i o) [])
  | 0, i, o, x5, x6, h, hi, hm => absurd (h.len W.nd) (by omega)
  | m + 1, i, o, x5, x6, h, hi, hm => by
    have hlen : (flat hs base o (o.take i) ++ raw hs (o.drop i)).length = tot (F hs) o := by
      rw [List.length_append, flat_len, raw_len, ← tot_append, List.take_append_drop]
    have ct : cb6 (r6 S R tl none (tot (F hs) (o.take i) : Int) x5 x6) (mv S hs base (flat hs base o (o.take i) ++ raw hs (o.drop i)) o []) = .ok (decide ((tot (F hs) (o.take i) : Int) < (tot (F hs) o : Int))) (mv S hs base (flat hs base o (o.take i) ++ raw hs (o.drop i)) o []) := by
      refine ev_test (ev_f2 (ev_var rfl) (ev_L (ev_one (ev_f1 (ev_var rfl) fld_moved)) (len_l mv0)) ?_)
      rw [ivs_len, hlen]
      rfl
    rw [while_step, ct, toS_ok]
    unfold C9.scan
    cases e : o[i]? with
    | none =>
      have hl : o.length ≤ i := List.getElem?_eq_none_iff.mp e
      rw [List.take_of_length_le hl, List.drop_eq_nil_of_le hl, show raw hs [] = [] from rfl, List.append_nil, decide_eq_false (Int.lt_irrefl _), if_neg (by decide)]
      exact ⟨_, x5, x6, rfl⟩
    | some a =>
      have hl := (List.getElem?_eq_some_iff.mp e).1
      have ma := h.sub a (List.mem_of_getElem? e)
      have eg : o[i] = a := (List.getElem?_eq_some_iff.mp e).2
      have ed : o.drop i = a :: o.drop (i + 1) := by rw [List.drop_eq_getElem_cons hl, eg]
      have es : o = o.take i ++ a :: o.drop (i + 1) := by rw [← ed, List.take_append_drop]
      have ht : tot (F hs) o = tot (F hs) (o.take i) + (1 + (F hs a).length + tot (F hs) (o.drop (i + 1))) := by
        conv => lhs; rw [es]
        rw [tot_append, tot_cons]
      have tz : tot (F hs) o ≤ 5000 := Nat.le_trans (tot_sub h.nd h.sub) W.sz
      rw [decide_eq_true (by omega), if_pos rfl]
      have h' := h.next W.wd e
      have P := puts_ok (A := A) h.nd h.sub (W.wd a ma)
      obtain ⟨r, er⟩ := P.pre
      have em : flat hs base o (o.take i) ++ raw hs (o.drop i) = (flat hs base o (o.take i) ++ [hs.getD a 0]) ++ F hs a ++ raw hs (o.drop (i + 1)) := by
        rw [ed, show a :: o.drop (i + 1) = [a] ++ o.drop (i + 1) from rfl, raw_app, raw_one]
        unfold rawb
        simp only [List.append_assoc, List.cons_append, List.nil_append]
      have lp : (flat hs base o (o.take i) ++ [hs.getD a 0]).length = tot (F hs) (o.take i) + 1 := by rw [List.length_append, flat_len]; rfl
      have wdt : ∀ b ∈ o.take i, ∀ w ∈ F hs b, Wd o w := fun b mb w mw => by
        obtain ⟨j, hj, ej⟩ := List.mem_iff_getElem.mp mb
        have hj' : j < i := by rw [List.length_take] at hj; omega
        have ej' : o[j]? = some b := by
          rw [← ej, List.getElem_take, List.getElem?_eq_getElem]
        rcases W.wd b (h.sub b (List.mem_of_mem_take mb)) w mw with z | ⟨c, mc, rfl⟩
        · exact .inl z
        · exact .inr ⟨c, h.cf j b hj' ej' c mw, rfl⟩
      obtain ⟨x6', fl⟩ := scan_in (S := S) (base := base) n W hb (R := R) (tl := tl) (at_ := (tot (F hs) (o.take i) : Int)) (x5 := some (iw ((tot (F hs) (o.take (i + 1)) : Nat) : Int))) (F hs a) (flat hs base o (o.take i) ++ [hs.getD a 0]) (raw hs (o.drop (i + 1))) o x6 (W.wd a ma) h.nd h.sub (by rw [← em]; exact hlen)
      have et : o.take (i + 1) = o.take i ++ [a] := by rw [List.take_succ, e]; rfl
      have tt : tot (F hs) (o.take (i + 1)) = tot (F hs) (o.take i) + 1 + (F hs a).length := by rw [et, tot_append, tot_one]; omega
      have e2 : (flat hs base o (o.take i) ++ [hs.getD a 0]) ++ (F hs a).map (rel (F hs) base ((F hs a).foldl put o)) ++ raw hs (o.drop (i + 1)) ++ raw hs (((F hs a).foldl put o).drop o.length) = flat hs base ((F hs a).foldl put o) (((F hs a).foldl put o).take (i + 1)) ++ raw hs (((F hs a).foldl put o).drop (i + 1)) := by
        have hl1 : i + 1 ≤ o.length := hl
        rw [er, List.drop_left, List.take_append_of_le_length hl1, List.drop_append_of_le_length hl1, raw_app, et, flat_app, flat_stable (o.take i) wdt, flat_cons, show flat hs base (o ++ r) [] = [] from rfl, List.append_nil]
        unfold rblk
        simp only [List.append_assoc, List.cons_append, List.nil_append]
      have t2 : ((F hs a).foldl put o).take (i + 1) = o.take (i + 1) := by rw [er, List.take_append_of_le_length (show i + 1 ≤ o.length from hl)]
      obtain ⟨at', y5, y6, ih⟩ := move_loop n W hb (R := R) (tl := tl) m (i + 1) ((F hs a).foldl put o) (some (iw ((tot (F hs) (o.take (i + 1)) : Nat) : Int))) x6' h' (by rw [er, List.length_append]; omega) (by omega)
      refine ⟨at', y5, y6, ?_⟩
      generalize hM : flat hs base o (o.take i) ++ raw hs (o.drop i) = M at em ⊢
      have gi : (ivs M)[tot (F hs) (o.take i)]? = some (.int (hs.getD a 0)) := by
        rw [em, List.append_assoc, List.append_assoc, ivs_app, List.getElem?_append_right (by rw [ivs_len, flat_len]; exact Nat.le_refl _), ivs_len, flat_len, Nat.sub_self]
        rfl
      have ix : gIx (.loc S.length) (iw (tot (F hs) (o.take i) : Int)) (mv S hs base M o []) = some (iw (hs.getD a 0), mv S hs base M o []) := g_ixl mv0 gi
      have f0 : fCall 1 (callN (n + 3) 0) (fAc (f2 gIx (f1 (gFld "Moving" "moved") (fVar 0)) (fVar 4)) fA0) (r6 S R tl none (tot (F hs) (o.take i) : Int) x5 x6) (mv S hs base M o []) = .ok (tu [.int (hs.getD a 0 / 2 % 5), .int (hs.getD a 0 / 2 / 5 / 256), .int (hs.getD a 0 / 2 / 5 % 256)]) (mv S hs base M o []) :=
        fcall_at (ws := [iw (hs.getD a 0)]) (ev_one (ev_f2 (ev_f1 (ev_var rfl) fld_moved) (ev_var rfl) ix)) (k_read0 (n + 2)) rfl rfl
      have bh : (tot (F hs) (o.take i) : Int) + 1 + hs.getD a 0 / 2 / 5 % 256 = ((tot (F hs) (o.take (i + 1)) : Nat) : Int) := by
        rw [many_int, ← W.len ma, tt]
        omega
      have bd : wb6 (callN (n + 3)) (r6 S R tl none (tot (F hs) (o.take i) : Int) x5 x6) (mv S hs base M o []) = .next (r6 S R tl none ((tot (F hs) (o.take (i + 1)) : Nat) : Int) (some (iw ((tot (F hs) (o.take (i + 1)) : Nat) : Int))) x6') (mv S hs base (flat hs base ((F hs a).foldl put o) (((F hs a).foldl put o).take (i + 1)) ++ raw hs (((F hs a).foldl put o).drop (i + 1))) ((F hs a).foldl put o) []) := by
        refine (ev_seq (ρ1 := r6 S R tl none (tot (F hs) (o.take i) : Int) (some (iw ((tot (F hs) (o.take (i + 1)) : Nat) : Int))) x6) (S1 := mv S hs base M o []) (ev_asg (ev_f2 (ev_f2 (ev_var rfl) rfl rfl) (ev_f2 f0 rfl rfl) (by rw [g_addI, bh])))).trans ?_
        refine (ev_seq (ρ1 := r6 S R tl none (tot (F hs) (o.take i) : Int) (some (iw ((tot (F hs) (o.take (i + 1)) : Nat) : Int))) x6') (S1 := mv S hs base (flat hs base ((F hs a).foldl put o) (((F hs a).foldl put o).take (i + 1)) ++ raw hs (((F hs a).foldl put o).drop (i + 1))) ((F hs a).foldl put o) []) ?_).trans rfl
        have rg : fRng rng2 (fAc (f2 gAdd (fVar 4) (fC (.int 1))) (fAc (fVar 5) fA0)) (r6 S R tl none (tot (F hs) (o.take i) : Int) (some (iw ((tot (F hs) (o.take (i + 1)) : Nat) : Int))) x6) (mv S hs base M o []) = .ok ⟨rangeW ((flat hs base o (o.take i) ++ [hs.getD a 0]).length : Int) (F hs a).length, fun _ => True⟩ (mv S hs base M o []) := by
          unfold fRng
          rw [ev_ac (ws := [iw ((tot (F hs) (o.take (i + 1)) : Nat) : Int)]) (x := iw ((tot (F hs) (o.take i) : Int) + 1)) (S1 := mv S hs base M o []) (S2 := mv S hs base M o []) (ev_f2 (ev_var rfl) rfl rfl) (ev_one (ev_var rfl)), R_ok]
          unfold rng2
          simp only
          have f1 : fit62 ((tot (F hs) (o.take i) : Int) + 1) = true := by
            unfold fit62
            rw [Bool.and_eq_true, decide_eq_true_eq, decide_eq_true_eq]
            omega
          have f2 : fit62 ((tot (F hs) (o.take (i + 1)) : Nat) : Int) = true := by
            unfold fit62
            rw [Bool.and_eq_true, decide_eq_true_eq, decide_eq_true_eq]
            omega
          have e1 : (((tot (F hs) (o.take (i + 1)) : Nat) : Int) - ((tot (F hs) (o.take i) : Int) + 1)).toNat = (F hs a).length := by omega
          rw [if_pos ⟨f1, f2⟩, lp, e1]
          rfl
        unfold fFor
        rw [rg]
        rw [← em, e2] at fl
        exact fl
      rw [bd]
      rw [t2] at ih ⊢
      exact ih
theorem k_move (n : Nat) {ws : List Int} {o : List Nat} {rm : Nat} (K : Ok hs A ws o rm) (hb : base ≤ 10000) :
    callN (n + 4) 6 [.loc (S.length + 2), ti ws] (mv S hs base [] [] []) = .ok (li (ws.map (rel (F hs) base o))) (mv S hs base (flat hs base o o) o []) := by
  have O := K.O
  show toR (b6 (callN (n + 3)) [some (.loc (S.length + 2)), some (ti ws), none, none, none, none, none] (mv S hs base [] [] [])) = _
  obtain ⟨ok, hok, hit⟩ := it_pure (a := fVar 1) (ρ := [some (.loc (S.length + 2)), some (ti ws), none, none, none, none, none]) (S := mv S hs base [] [] []) (xs := ivs ws) (ev_var rfl) (.inr rfl)
  have lc := told_lc (S := S) (base := base) n K.W hb (R := ti ws) hok ws [] [] K.hw List.nodup_nil (fun _ m => by cases m) (by have := K.lw; simp; omega)
  have B := BI.start (F := F hs) K.hw
  have em : raw hs (ws.foldl put []) = flat hs base (ws.foldl put []) ((ws.foldl put []).take 0) ++ raw hs ((ws.foldl put []).drop 0) := rfl
  obtain ⟨at', y5, y6, lp⟩ := move_loop (S := S) (base := base) n K.W hb (R := ti ws) (tl := li (ws.map (rel (F hs) base (ws.foldl put [])))) 1000000 0 (ws.foldl put []) none none B (Nat.zero_le _) (by have := K.W.al; omega)
  have eo : C9.scan (F hs) 1000000 0 (ws.foldl put []) = o := by rw [K.o_eq]; rfl
  rw [eo, ← em] at lp
  have P := puts_ok (A := A) (o := []) List.nodup_nil (fun _ m => by cases m) K.hw
  have er : ws.map (rel (F hs) base (ws.foldl put [])) = ws.map (rel (F hs) base o) := by
    obtain ⟨r, e⟩ := (scan_ok K.W.nd K.W.wd 1000000 0 (ws.foldl put []) B (Nat.zero_le _) (by have := K.W.al; omega)).1
    rw [eo] at e
    refine List.map_congr_left fun w m => ?_
    rw [e, rel_app]
    rcases K.hw w m with z | ⟨c, mc, rfl⟩
    · exact .inl z
    · exact .inr ⟨c, (P.mem c).mpr (.inr m), rfl⟩
  unfold b6
  refine ret_ok ((ev_seq (ρ1 := r6 S (ti ws) (li (ws.map (rel (F hs) base (ws.foldl put [])))) none 0 none none |>.set 4 none) (S1 := mv S hs base (raw hs (ws.foldl put [])) (ws.foldl put []) []) (ev_asg (i := 2) (x := li (ws.map (rel (F hs) base (ws.foldl put [])))) ?_)).trans ?_)
  · unfold fLc fLcL
    rw [hit, R_ok]
    have e0 : mv S hs base [] [] [] ++ [.lst []] = mv S hs base (raw hs []) [] [.lst (ivs [])] := by
      unfold mv
      rw [List.append_assoc]
      rfl
    show frz _ (lcL ok (gtName 3) fYes (mwE (callN (n + 3))) _ (mv S hs base [] [] []).length _ (mv S hs base [] [] [] ++ [.lst []])) = _
    rw [e0, mv_len]
    show frz (S.length + 3) (lcL ok (gtName 3) fYes (mwE (callN (n + 3))) [some (.loc (S.length + 2)), some (ti ws), none, none, none, none, none] (S.length + 3) ((ivs ws).map VI.W.d) (mv S hs base (raw hs []) [] [.lst (ivs [])])) = _
    rw [lc]
    have h3 : (mv S hs base (raw hs (ws.foldl put [])) (ws.foldl put []) [.lst (ivs ([] ++ ws.map (rel (F hs) base (ws.foldl put []))))])[S.length + 3]? = some (.lst (ivs (ws.map (rel (F hs) base (ws.foldl put []))))) := by
      unfold mv
      rw [List.getElem?_append_right (by omega)]
      simp
    unfold frz frzW
    simp only [h3]
    rw [if_neg (Nat.lt_irrefl _)]
    show R.ok (li _) (List.take (S.length + 3) _) = _
    rw [mv_take]
  refine (ev_seq (ρ1 := r6 S (ti ws) (li (ws.map (rel (F hs) base (ws.foldl put [])))) none 0 none none) (S1 := mv S hs base (raw hs (ws.foldl put [])) (ws.foldl put []) []) rfl).trans ?_
  refine (ev_seq lp).trans ?_
  rw [← er]
  exact ev_ret (ev_var rfl)
end
end Q9
end VI
set_option Elab.async false
set_option linter.all false
set_option maxRecDepth 100000
namespace VI
open PySem PySem.Spec PyProof.Rows L2
namespace Q9
open C9

section
variable {S : Store} {hs : List Int} {A : List Nat} {ws : List Int} {o : List Nat} {rm : Nat}
theorem k_new (n : Nat) {base : Nat} : callN (n + 4) 22 [ti hs, iw 0, iw (base : Int)] S = .ok (.loc (S.length + 2)) (mv S hs base [] [] []) := by
  show (if 1 ≤ n + 3 then mkOb "Moving" 4 (fun ws S => noX (goI (startI 4 ws) (ini22 (callP (n + 3)).2) [] S)) [ti hs, iw 0, iw (base : Int)] S else .bad) = _
  rw [if_pos (by omega)]
  have g : goI (startI 4 [ti hs, iw 0, iw (base : Int)]) (ini22 (callP (n + 3)).2) [] S = .ok (obF hs base S.length) (S ++ [.lst [], .dK []]) := by
    unfold ini22 obF
    have s0 : startI 4 [ti hs, iw 0, iw (base : Int)] = [none, some (ti hs), some (iw 0), some (iw (base : Int))] := rfl
    rw [s0]
    have gl : fL gLive fA0 [none, some (ti hs), some (iw 0), some (iw (base : Int))] S = .ok (.loc S.length) (S ++ [.lst []]) := rfl
    have gd : fDnew [none, some (ti hs), some (iw 0), some (iw (base : Int))] (S ++ [.lst []]) = .ok (.loc (S.length + 1)) (S ++ [.lst [], .dK []]) := by
      show R.ok (W.loc (S ++ [SO.lst []]).length) ((S ++ [.lst []]) ++ [.dK []]) = _
      rw [List.length_append, push2]
      rfl
    have v1 : ∀ S', fVar 1 [none, some (ti hs), some (iw 0), some (iw (base : Int))] S' = .ok (ti hs) S' := fun _ => rfl
    have v2 : ∀ S', fVar 2 [none, some (ti hs), some (iw 0), some (iw (base : Int))] S' = .ok (iw 0) S' := fun _ => rfl
    have v3 : ∀ S', fVar 3 [none, some (ti hs), some (iw 0), some (iw (base : Int))] S' = .ok (iw (base : Int)) S' := fun _ => rfl
    simp only [goI, v1, v2, v3, gl, gd, R_ok]
    rfl
  unfold mkOb
  rw [if_pos (by rfl)]
  simp only [g, noX_okW, R_ok]
  have lb : locsBs (S ++ [SO.lst [], SO.dK []]).length ((obF hs base S.length).map (·.2)) = true := by
    rw [List.length_append]
    unfold obF
    simp [locsBs, locsB]
  rw [if_pos lb, List.length_append, List.append_assoc]
  rfl
def outT (hs : List Int) (base rm : Nat) (o : List Nat) (ws : List Int) : List PyData := [.tuple (ivs (lay hs base o (2 * rm))), .int ((base + tot (F hs) o : Nat) : Int), .tuple (ivs (ws.map (rel (F hs) base o)))]
theorem k_collected (n : Nat) {hf base : Nat} (K : Ok hs A ws o rm) (hb : (hf = 0 ∧ base = rm) ∨ (hf = 1 ∧ base = 0)) :
    ∃ ex, callN (n + 5) 7 [ti hs, iw (rm : Int), iw (hf : Int), ti ws] S = .ok (tu (outT hs base rm o ws)) (S ++ ex) := by
  have hcap := K.cap
  have hrz := K.rz
  have hbz : base ≤ 10000 := by rcases hb with ⟨_, e⟩ | ⟨_, e⟩ <;> omega
  have sb : gMulA (iw (1 - (hf : Int))) (iw (rm : Int)) S = some (iw (base : Int), S) := by
    rw [g_mul (by omega) (by omega)]
    rcases hb with ⟨e, e'⟩ | ⟨e, e'⟩ <;> subst e <;> subst e'
    · simp
    · simp
  refine ⟨[.lst (ivs (flat hs base o o)), stP hs base o, .ob "Moving" (obF hs base S.length)], ?_⟩
  show (if 2 ≤ n + 4 then toR (b7 (callN (n + 4)) [some (ti hs), some (iw (rm : Int)), some (iw (hf : Int)), some (ti ws), none, none, none, none, none] S) else .bad) = _
  rw [if_pos (by omega)]
  show _ = R.ok _ (mv S hs base (flat hs base o o) o [])
  unfold b7
  refine ret_ok ((ev_seq (ρ1 := [some (ti hs), some (iw (rm : Int)), some (iw (hf : Int)), some (ti ws), some (iw (base : Int)), none, none, none, none]) (S1 := S) (ev_asg (ev_f2 (ev_f2 rfl (ev_var rfl) rfl) (ev_var rfl) sb))).trans ?_)
  refine (ev_seq (ρ1 := [some (ti hs), some (iw (rm : Int)), some (iw (hf : Int)), some (ti ws), some (iw (base : Int)), some (.loc (S.length + 2)), none, none, none]) (S1 := mv S hs base [] [] []) (ev_asg ?_)).trans ?_
  · unfold fCallL
    rw [ev_ac (ws := [iw 0, iw (base : Int)]) (x := ti hs) (S1 := S) (S2 := S) (ev_var rfl) (ev_ac (S1 := S) rfl (ev_one (ev_var rfl))), R_ok, if_pos (by rfl)]
    exact k_new n
  have tp : ∀ xs S', gTupleA [li xs] S' = some (ti xs, S') := fun _ _ => rfl
  refine (ev_seq (ρ1 := [some (ti hs), some (iw (rm : Int)), some (iw (hf : Int)), some (ti ws), some (iw (base : Int)), some (.loc (S.length + 2)), some (ti (ws.map (rel (F hs) base o))), none, none]) (S1 := mv S hs base (flat hs base o o) o []) (ev_asg (ev_L (ev_one (ev_methC (ev_var rfl) isOb_m (ev_one (ev_var rfl)) (k_move n K hbz) (by rw [mv_len, mv_len]))) (tp _ _)))).trans ?_
  have tm : gTupleA [.loc S.length] (mv S hs base (flat hs base o o) o []) = some (ti (flat hs base o o), mv S hs base (flat hs base o o) o []) := by
    unfold gTupleA gTuple
    simp only [asSeq, mv0]
  have ln : gLen [.loc S.length] (mv S hs base (flat hs base o o) o []) = some (iw (tot (F hs) o : Int), mv S hs base (flat hs base o o) o []) := by rw [len_l mv0, ivs_len, flat_len]
  have zf : ∀ (k : Int) S', 0 ≤ k ∧ k ≤ 100000 → gMulC (tu [.int 0]) (iw k) S' = some (ti (Z k.toNat), S') := fun k S' h => mul_zT h
  have ct : ∀ (xs ys : List Int) S', xs.length + ys.length ≤ 16777216 → gAdd (ti xs) (ti ys) S' = some (ti (xs ++ ys), S') := fun xs ys S' h => by
    rw [g_catT (by rw [ivs_len, ivs_len]; exact h), ← ivs_app]
  have k1 : ((rm : Int) - (tot (F hs) o : Int)).toNat = rm - tot (F hs) o := by omega
  have k2 : ((rm : Int)).toNat = rm := Int.toNat_natCast _
  have c1 := ct (flat hs base o o) (Z (rm - tot (F hs) o)) (mv S hs base (flat hs base o o) o []) (by rw [flat_len, Z_len]; omega)
  refine (ev_seq (ρ1 := [some (ti hs), some (iw (rm : Int)), some (iw (hf : Int)), some (ti ws), some (iw (base : Int)), some (.loc (S.length + 2)), some (ti (ws.map (rel (F hs) base o))), some (ti (flat hs base o o ++ Z (rm - tot (F hs) o))), none]) (S1 := mv S hs base (flat hs base o o) o []) (ev_asg (ev_f2 (ev_L (ev_one (ev_f1 (ev_var rfl) fld_moved)) tm) (ev_f2 rfl (ev_f2 (ev_var rfl) (ev_L (ev_one (ev_f1 (ev_var rfl) fld_moved)) ln) g_subI) (zf _ _ (by omega))) (by rw [k1]; exact c1)))).trans ?_
  refine (ev_seq (ρ1 := [some (ti hs), some (iw (rm : Int)), some (iw (hf : Int)), some (ti ws), some (iw (base : Int)), some (.loc (S.length + 2)), some (ti (ws.map (rel (F hs) base o))), some (ti (flat hs base o o ++ Z (rm - tot (F hs) o))), some (ti (Z rm))]) (S1 := mv S hs base (flat hs base o o) o []) (ev_asg (ev_f2 rfl (ev_var rfl) (by have q := zf (rm : Int) (mv S hs base (flat hs base o o) o []) (by omega); rw [k2] at q; exact q)))).trans ?_
  generalize hS : mv S hs base (flat hs base o o) o [] = S' at ln ⊢
  have fm : f1 (gFld "Moving" "moved") (fVar 5) [some (ti hs), some (iw (rm : Int)), some (iw (hf : Int)), some (ti ws), some (iw (base : Int)), some (.loc (S.length + 2)), some (ti (ws.map (rel (F hs) base o))), some (ti (flat hs base o o ++ Z (rm - tot (F hs) o))), some (ti (Z rm))] S' = .ok (.loc S.length) S' := by
    rw [← hS]
    exact ev_f1 (ev_var rfl) fld_moved
  have fi : ∀ (xs : List Int), xs = lay hs base o (2 * rm) → fRet (fL gTup (fAc (fC (.tuple (ivs xs))) (fAc (f2 gAdd (fVar 4) (fL gLen (fAc (f1 (gFld "Moving" "moved") (fVar 5)) fA0))) (fAc (fVar 6) fA0)))) [some (ti hs), some (iw (rm : Int)), some (iw (hf : Int)), some (ti ws), some (iw (base : Int)), some (.loc (S.length + 2)), some (ti (ws.map (rel (F hs) base o))), some (ti (flat hs base o o ++ Z (rm - tot (F hs) o))), some (ti (Z rm))] S' = .ret (tu (outT hs base rm o ws)) S' := fun xs e => by
    subst e
    exact ev_ret (ev_L (ws := [ti (lay hs base o (2 * rm)), iw ((base + tot (F hs) o : Nat) : Int), ti (ws.map (rel (F hs) base o))]) (ev_ac rfl (ev_ac (ev_f2 (ev_var rfl) (ev_L (ev_one fm) ln) rfl) (ev_one (ev_var rfl)))) rfl)
  have fin : ∀ {e : FE} (xs : List Int), xs = lay hs base o (2 * rm) → e [some (ti hs), some (iw (rm : Int)), some (iw (hf : Int)), some (ti ws), some (iw (base : Int)), some (.loc (S.length + 2)), some (ti (ws.map (rel (F hs) base o))), some (ti (flat hs base o o ++ Z (rm - tot (F hs) o))), some (ti (Z rm))] S' = .ok (ti xs) S' → fRet (fL gTup (fAc e (fAc (f2 gAdd (fVar 4) (fL gLen (fAc (f1 (gFld "Moving" "moved") (fVar 5)) fA0))) (fAc (fVar 6) fA0)))) [some (ti hs), some (iw (rm : Int)), some (iw (hf : Int)), some (ti ws), some (iw (base : Int)), some (.loc (S.length + 2)), some (ti (ws.map (rel (F hs) base o))), some (ti (flat hs base o o ++ Z (rm - tot (F hs) o))), some (ti (Z rm))] S' = .ret (tu (outT hs base rm o ws)) S' := fun {e} xs ex he => by
    subst ex
    exact ev_ret (ev_L (ws := [ti (lay hs base o (2 * rm)), iw ((base + tot (F hs) o : Nat) : Int), ti (ws.map (rel (F hs) base o))]) (ev_ac he (ev_ac (ev_f2 (ev_var rfl) (ev_L (ev_one fm) ln) rfl) (ev_one (ev_var rfl)))) rfl)
  rcases hb with ⟨e, e'⟩ | ⟨e, e'⟩
  · subst e
    subst e'
    refine fin (Z base ++ (flat hs base o o ++ Z (base - tot (F hs) o))) ?_ ((ev_ifn (S1 := S') (ev_test (ev_f2 (ev_var rfl) rfl g_eqI))).trans (ev_f2 (ev_var rfl) (ev_var rfl) (ct _ _ _ (by simp only [List.length_append, Z_len, flat_len]; omega))))
    unfold lay
    rw [List.append_assoc]
    congr 3
    omega
  · subst e
    subst e'
    refine fin (flat hs 0 o o ++ Z (rm - tot (F hs) o) ++ Z rm) ?_ ((ev_ify (S1 := S') (ev_test (ev_f2 (ev_var rfl) rfl g_eqI))).trans (ev_f2 (ev_var rfl) (ev_var rfl) (ct _ _ _ (by simp only [List.length_append, Z_len, flat_len]; omega))))
    unfold lay
    rw [show Z 0 = [] from rfl, List.nil_append, List.append_assoc, ← Z_add]
    congr 2
    omega
/-- the law's, told as data -/
theorem k_lcol (n : Nat) {hf base : Nat} (K : Ok hs A ws o rm) (hb : (hf = 0 ∧ base = rm) ∨ (hf = 1 ∧ base = 0)) {ρ : Rho} {fa : FA} (ha : fa ρ S = .ok [ti hs, iw (rm : Int), iw (hf : Int), li ws] S) :
    fCall 4 (callN (n + 3) 15) fa ρ S = .ok (tu [.list (ivs (lay hs base o (2 * rm))), .int ((base + tot (F hs) o : Nat) : Int), .list (ivs (ws.map (rel (F hs) base o)))]) S := by
  unfold fCall
  rw [ha, R_ok, if_pos (by rfl), k_lcollected n K hb]
  have h2 : (S ++ [stP hs base o, stO o, .lst (ivs (lay hs base o (2 * rm)))])[S.length + 2]? = some (.lst (ivs (lay hs base o (2 * rm)))) := at32
  unfold frz
  have ef : frzW S.length (S ++ [stP hs base o, stO o, .lst (ivs (lay hs base o (2 * rm)))]) (.tp [.loc (S.length + 2), iw ((base + tot (F hs) o : Nat) : Int), li (ws.map (rel (F hs) base o))]) = some (tu [.list (ivs (lay hs base o (2 * rm))), .int ((base + tot (F hs) o : Nat) : Int), .list (ivs (ws.map (rel (F hs) base o)))]) := by
    unfold frzW frzWs
    have l2 : frzW S.length (S ++ [stP hs base o, stO o, .lst (ivs (lay hs base o (2 * rm)))]) (.loc (S.length + 2)) = some (li (lay hs base o (2 * rm))) := by
      unfold frzW
      simp only [h2]
      rw [if_neg (by omega)]
    rw [l2]
    rfl
  simp only [ef]
  rw [List.take_left]
end
end Q9
end VI
set_option Elab.async false
set_option linter.all false
set_option maxRecDepth 100000
namespace VI
open PySem PySem.Spec PyProof.Rows L2
namespace Q9
open C9

/-! what stands there afterwards -/
section
variable {hs : List Int} {A : List Nat} {ws : List Int} {o : List Nat} {rm base : Nat}
theorem lay_len (h : base + tot (F hs) o ≤ 2 * rm) : (lay hs base o (2 * rm)).length = 2 * rm := by
  unfold lay
  simp only [List.length_append, Z_len, flat_len]
  omega
theorem lay_drop {a : Nat} (nd : o.Nodup) (ma : a ∈ o) : ∃ r, (lay hs base o (2 * rm)).drop (pos (F hs) base o a) = rblk hs base o a ++ r := by
  obtain ⟨o1, o2, e, n1⟩ := split_at nd ma
  refine ⟨flat hs base o o2 ++ Z (2 * rm - base - tot (F hs) o), ?_⟩
  have hp : pos (F hs) base o a = base + tot (F hs) o1 := by rw [e]; exact pos_mid n1
  have hl : (Z base ++ flat hs base o o1).length = base + tot (F hs) o1 := by rw [List.length_append, Z_len, flat_len]
  have ef : flat hs base o o = flat hs base o o1 ++ (rblk hs base o a ++ flat hs base o o2) := by
    conv => lhs; arg 4; rw [e]
    rw [flat_app, flat_cons]
  unfold lay
  rw [ef, hp, ← hl]
  simp only [← List.append_assoc]
  rw [List.append_assoc (Z base ++ flat hs base o o1 ++ rblk hs base o a), List.append_assoc (Z base ++ flat hs base o o1), List.drop_left]
  simp only [List.append_assoc]
theorem getD_drop {L : List Int} {p : Nat} {x : Int} {r : List Int} (h : L.drop p = x :: r) : L.getD p 0 = x := by
  have := List.getElem?_drop (xs := L) (i := p) (j := 0)
  rw [h] at this
  rw [List.getD_eq_getElem?_getD, ← show L[p + 0]? = L[p]? from rfl, ← this]
  rfl
theorem lay_hd {a : Nat} (nd : o.Nodup) (ma : a ∈ o) : (lay hs base o (2 * rm)).getD (pos (F hs) base o a) 0 = hs.getD a 0 := by
  obtain ⟨r, e⟩ := lay_drop (hs := hs) (base := base) (rm := rm) nd ma
  unfold rblk at e
  exact getD_drop e
theorem lay_F {a : Nat} (W : WF hs A) (nd : o.Nodup) (ma : a ∈ o) (hA : a ∈ A) : F (lay hs base o (2 * rm)) (pos (F hs) base o a) = (F hs a).map (rel (F hs) base o) := by
  obtain ⟨r, e⟩ := lay_drop (hs := hs) (base := base) (rm := rm) nd ma
  have e1 : (lay hs base o (2 * rm)).drop (pos (F hs) base o a + 1) = (F hs a).map (rel (F hs) base o) ++ r := by
    rw [← List.drop_drop, e]
    rfl
  show ((lay hs base o (2 * rm)).drop (pos (F hs) base o a + 1)).take (many ((lay hs base o (2 * rm)).getD (pos (F hs) base o a) 0)) = _
  rw [lay_hd nd ma, e1, ← W.len hA, ← List.length_map (as := F hs a) (f := rel (F hs) base o), List.take_left]
theorem Ok.iso (K : Ok hs A ws o rm) : Iso (F hs) (F (lay hs base o (2 * rm))) base o ws (ws.map (rel (F hs) base o)) where
  nd := K.O.nd
  wd := K.wdo
  wr := K.wdr
  rc := fun a ma => (K.O.mem a).mp ma
  fld := fun a ma => lay_F K.W K.O.nd ma (K.O.sub a ma)
  rts := rfl
theorem rel_wd {w : Int} (h : Wd o w) : Wd (o.map (pos (F hs) base o)) (rel (F hs) base o w) := by
  rcases h with z | ⟨c, mc, rfl⟩
  · rw [rel_odd z]; exact .inl z
  · rw [rel_even]
    exact .inr ⟨_, List.mem_map.mpr ⟨c, mc, rfl⟩, rfl⟩
theorem Ok.told (K : Ok hs A ws o rm) (hb : base = rm ∨ base = 0) : ∃ o', Ok (lay hs base o (2 * rm)) (o.map (pos (F hs) base o)) (ws.map (rel (F hs) base o)) o' rm ∧ tot (F (lay hs base o (2 * rm))) o' = tot (F hs) o := by
  have I := K.iso (base := base)
  have cap := K.cap
  have hz : base + tot (F hs) o ≤ 2 * rm := by rcases hb with e | e <;> omega
  have W' : WF (lay hs base o (2 * rm)) (o.map (pos (F hs) base o)) := by
    refine ⟨I.nd2, fun p mp => ?_, fun p mp w mw => ?_, ?_⟩
    · obtain ⟨a, ma, rfl⟩ := List.mem_map.mp mp
      rw [lay_hd K.O.nd ma, lay_len hz, ← K.W.len (K.O.sub a ma)]
      have := (pos_lt (F := F hs) (base := base) K.O.nd ma).2
      exact ⟨by omega, (K.W.ok a (K.O.sub a ma)).2⟩
    · obtain ⟨a, ma, rfl⟩ := List.mem_map.mp mp
      rw [I.fld a ma] at mw
      obtain ⟨v, mv, rfl⟩ := List.mem_map.mp mw
      exact rel_wd (K.wdo a ma v mv)
    · rw [I.tot I.nd2 fun c => by rw [I.reach, List.mem_map]; exact ⟨fun ⟨a, m, e⟩ => ⟨a, m, e.symm⟩, fun ⟨a, m, e⟩ => ⟨a, m, e.symm⟩⟩]
      exact Nat.le_trans (tot_sub K.O.nd K.O.sub) K.W.sz
  have hw' : ∀ w ∈ ws.map (rel (F hs) base o), Wd (o.map (pos (F hs) base o)) w := fun w mw => by
    obtain ⟨v, mv, rfl⟩ := List.mem_map.mp mw
    exact rel_wd (K.wdr v mv)
  have O' := ord_ok W'.nd (by have := W'.al; omega) W'.wd hw'
  have et := I.tot O'.nd O'.mem
  exact ⟨_, ⟨W', hw', by rw [List.length_map]; exact K.lw, rfl, by rw [et]; exact cap, K.rz⟩, et⟩
theorem lay_bd {B : Nat} (K : Ok hs A ws o rm) (hb : base = rm ∨ base = 0) (hB : 20000 < B) (h : ∀ w ∈ hs, w.natAbs < B) : ∀ w ∈ lay hs base o (2 * rm), w.natAbs < B := by
  have cap := K.cap
  have rz := K.rz
  have hz : base ≤ 5000 := by rcases hb with e | e <;> omega
  have zz : ∀ n, ∀ w ∈ Z n, w.natAbs < B := fun n w m => by rw [List.eq_of_mem_replicate m]; show 0 < B; omega
  intro w mw
  unfold lay at mw
  rcases List.mem_append.mp mw with m | m
  · rcases List.mem_append.mp m with m | m
    · exact zz _ w m
    · unfold flat at m
      obtain ⟨a, ma, m⟩ := List.mem_flatMap.mp m
      have hA := K.O.sub a ma
      unfold rblk at m
      rcases List.mem_cons.mp m with e | m
      · rw [e, List.getD_eq_getElem?_getD, List.getElem?_eq_getElem (K.W.lt hA)]
        exact h _ (List.getElem_mem _)
      · obtain ⟨v, mv, rfl⟩ := List.mem_map.mp m
        rcases K.wdo a ma v mv with z | ⟨c, mc, rfl⟩
        · rw [rel_odd z]
          unfold F at mv
          exact h v (List.mem_of_mem_drop (List.mem_of_mem_take mv))
        · rw [rel_even]
          have := (pos_lt (F := F hs) (base := base) K.O.nd mc).2
          omega
  · exact zz _ w m
end
end Q9
end VI
set_option Elab.async false
set_option linter.all false
set_option maxRecDepth 100000
namespace VI
open PySem PySem.Spec PyProof.Rows L2
namespace Q9
open C9

/-! shapes -/
def idx : List Nat → Nat → Option Nat
  | [], _ => none
  | b :: r, a => if b = a then some 0 else (idx r a).map (· + 1)
theorem idx_none {a : Nat} : ∀ {l : List Nat}, idx l a = none → a ∉ l
  | [], _ => by simp
  | b :: r, h => by
    unfold idx at h
    by_cases e : b = a
    · rw [if_pos e] at h; cases h
    · rw [if_neg e] at h
      have h2 : idx r a = none := by
        cases q : idx r a with
        | none => rfl
        | some k => rw [q] at h; cases h
      intro m
      rcases List.mem_cons.mp m with m | m
      · exact e m.symm
      · exact idx_none h2 m
theorem idx_some {a k : Nat} : ∀ {l : List Nat}, idx l a = some k → a ∈ l
  | [], h => by cases h
  | b :: r, h => by
    by_cases e : b = a
    · rw [e]; simp
    · unfold idx at h
      rw [if_neg e] at h
      cases q : idx r a with
      | none => rw [q] at h; cases h
      | some j => exact List.mem_cons_of_mem _ (idx_some q)
theorem idx_lt {a k : Nat} : ∀ {l : List Nat}, idx l a = some k → k < l.length
  | [], h => by cases h
  | b :: r, h => by
    unfold idx at h
    rw [List.length_cons]
    by_cases e : b = a
    · rw [if_pos e] at h; cases h; omega
    · rw [if_neg e] at h
      cases q : idx r a with
      | none => rw [q] at h; cases h
      | some j =>
        rw [q] at h
        have := idx_lt q
        have e2 : j + 1 = k := by simpa using h
        omega
theorem idx_map {f : Nat → Nat} {a : Nat} : ∀ {l : List Nat}, (∀ b ∈ l, f b = f a → b = a) → idx (l.map f) (f a) = idx l a
  | [], _ => rfl
  | b :: r, h => by
    rw [List.map_cons]
    unfold idx
    by_cases e : b = a
    · rw [if_pos e, if_pos (by rw [e])]
    · rw [if_neg e, if_neg (fun q => e (h b (by simp) q)), idx_map fun c m => h c (List.mem_cons_of_mem _ m)]
def mz : Nat → List Nat → List (Int × PyData)
  | _, [] => []
  | i, a :: r => (2 * (a : Int), .int (i : Int)) :: mz (i + 1) r
theorem mz_app {a : Nat} : ∀ {l : List Nat} {i : Nat}, mz i (l ++ [a]) = mz i l ++ [(2 * (a : Int), .int ((i + l.length : Nat) : Int))]
  | [], i => rfl
  | b :: r, i => by
    show (2 * (b : Int), PyData.int (i : Int)) :: mz (i + 1) (r ++ [a]) = _
    rw [mz_app, List.length_cons, show i + 1 + r.length = i + (r.length + 1) by omega]
    rfl
theorem mz_len : ∀ {l : List Nat} {i : Nat}, (mz i l).length = l.length
  | [], _ => rfl
  | b :: r, i => by show (mz (i + 1) r).length + 1 = _; rw [mz_len, List.length_cons]
theorem mz_mem {a : Nat} : ∀ {l : List Nat} {i : Nat}, 2 * (a : Int) ∈ (mz i l).map (·.1) ↔ a ∈ l
  | [], _ => by simp [mz]
  | b :: r, i => by
    show 2 * (a : Int) ∈ 2 * (b : Int) :: (mz (i + 1) r).map (·.1) ↔ _
    rw [List.mem_cons, List.mem_cons, mz_mem]
    constructor
    · rintro (h | h)
      · exact .inl (by omega)
      · exact .inr h
    · rintro (h | h)
      · exact .inl (by omega)
      · exact .inr h
theorem mz_val {a : Nat} : ∀ {l : List Nat} {i k : Nat}, idx l a = some k → valD (kz (mz i l)) (.inl (2 * (a : Int))) = some (.int ((i + k : Nat) : Int))
  | [], _, _, h => by cases h
  | b :: r, i, k, h => by
    unfold idx at h
    by_cases e : b = a
    · rw [if_pos e] at h
      cases h
      unfold mz
      rw [valD_kz, List.find?_cons, decide_eq_true (by rw [e])]
      rfl
    · rw [if_neg e] at h
      cases q : idx r a with
      | none => rw [q] at h; cases h
      | some j =>
        rw [q] at h
        cases h
        have ih := mz_val (i := i + 1) q
        rw [valD_kz] at ih
        unfold mz
        rw [valD_kz, List.find?_cons, decide_eq_false (show ¬ (2 * (b : Int) = 2 * (a : Int)) by omega), show i + (j + 1) = i + 1 + j by omega]
        exact ih
def shp (hs : List Int) : Nat → List Nat → List Int → List PyData
  | 0, _, _ => []
  | _ + 1, _, [] => []
  | n + 1, met, w :: r => if w % 2 = 1 then .int w :: shp hs n met r else match idx met (w / 2).toNat with
    | some k => .tuple [.str "again", .int (k : Int)] :: shp hs n met r
    | none => .tuple [.int (hs.getD (w / 2).toNat 0 / 2 % 5), .int (hs.getD (w / 2).toNat 0 / 2 / 5 / 256), .int ((F hs (w / 2).toNat).length : Int)] :: shp hs n (met ++ [(w / 2).toNat]) (r ++ F hs (w / 2).toNat)
/-- the shape is the same where it was moved to -/
theorem shp_iso {hs L : List Int} {base : Nat} {o : List Nat} (nd : o.Nodup) (wd : ∀ a ∈ o, ∀ w ∈ F hs a, Wd o w) (hF : ∀ a ∈ o, F L (pos (F hs) base o a) = (F hs a).map (rel (F hs) base o)) (hH : ∀ a ∈ o, L.getD (pos (F hs) base o a) 0 = hs.getD a 0) :
    ∀ (n : Nat) (met : List Nat) (line : List Int), (∀ a ∈ met, a ∈ o) → (∀ w ∈ line, Wd o w) → shp L n (met.map (pos (F hs) base o)) (line.map (rel (F hs) base o)) = shp hs n met line
  | 0, _, _, _, _ => rfl
  | _ + 1, _, [], _, _ => rfl
  | n + 1, met, w :: r, hm, hl => by
    have hw := hl w (by simp)
    have hr : ∀ v ∈ r, Wd o v := fun v m => hl v (List.mem_cons_of_mem _ m)
    rw [List.map_cons]
    unfold shp
    rcases hw with z | ⟨a, ma, rfl⟩
    · rw [rel_odd z, if_pos z, if_pos z, shp_iso nd wd hF hH n met r hm hr]
    · rw [rel_even]
      have e1 : (2 * (a : Int) / 2).toNat = a := by omega
      have e2 : (2 * (pos (F hs) base o a : Int) / 2).toNat = pos (F hs) base o a := by omega
      rw [if_neg (by omega), if_neg (by omega), e1, e2, idx_map (fun b mb e => pos_inj nd (hm b mb) ma e)]
      cases q : idx met a with
      | some k =>
        show _ :: _ = _ :: _
        rw [shp_iso nd wd hF hH n met r hm hr]
      | none =>
        show _ :: _ = _ :: _
        rw [hH a ma, hF a ma, List.length_map, ← List.map_append, show [pos (F hs) base o a] = [a].map (pos (F hs) base o) from rfl, ← List.map_append]
        rw [shp_iso nd wd hF hH n (met ++ [a]) (r ++ F hs a) ?_ ?_]
        · intro b mb
          rcases List.mem_append.mp mb with m | m
          · exact hm b m
          · rw [List.mem_singleton.mp m]; exact ma
        · intro v mv
          rcases List.mem_append.mp mv with m | m
          · exact hr v m
          · exact wd a ma v m
abbrev r19 (S : Store) (hs ws : List Int) (x5 x6 x7 x8 : Option W) : Rho := [some (ti hs), some (ti ws), some (.loc S.length), some (.loc (S.length + 1)), some (.loc (S.length + 2)), x5, x6, x7, x8]
noncomputable abbrev c19 : FT := (fTest (f2 gNe (fVar 4) (fL gLst fA0)))
noncomputable abbrev w19 (call : Calls) : FS := (fSeq (fAsg (fMeth mPopAt (fVar 4) (fAc (fC (.int 0)) fA0)) (gtName 5)) (fIf (fTest (f2 gEq (f2 gMod (fL gIntA (fAc (fVar 5) fA0)) (fC (.int 2))) (fC (.int 1)))) (fDrop (fMeth mAppend (fVar 3) (fAc (fVar 5) fA0))) (fIf (fTest (f2 gInD (fVar 5) (fVar 2))) (fDrop (fMeth mAppend (fVar 3) (fAc (fL gTup (fAc (fC (.str "again")) (fAc (f2 gIxA (fVar 2) (fVar 5)) fA0))) fA0))) (fSeq (fDput (fL gLenD (fAc (fVar 2) fA0)) (fVar 2) (fVar 5)) (fSeq (fAsg (fCall 2 (call 13) (fAc (fVar 0) (fAc (f2 gDiv (fL gIntA (fAc (fVar 5) fA0)) (fC (.int 2))) fA0))) (gtTup 3 (gtCons (gtName 6) (gtCons (gtName 7) (gtCons (gtName 8) gtNil))))) (fSeq (fDrop (fMeth mAppend (fVar 3) (fAc (fL gTup (fAc (fVar 6) (fAc (fVar 7) (fAc (fL gLen (fAc (fVar 8) fA0)) fA0)))) fA0))) (fDrop (fMeth mExtendA (fVar 4) (fAc (fL gList (fAc (fVar 8) fA0)) fA0)))))))))
def sS (S : Store) (met : List Nat) (acc : List PyData) (line : List Int) : Store := S ++ [.dK (kz (mz 0 met)), .lst acc, .lst (ivs line)]
section
variable {S : Store} {hs ws : List Int} {A : List Nat} {met : List Nat} {acc : List PyData} {r : List Int} {x5 x6 x7 x8 : Option W}
theorem s_pop (n : Nat) {w : Int} : fAsg (fMeth mPopAt (fVar 4) (fAc (fC (.int 0)) fA0)) (gtName 5) (r19 S hs ws x5 x6 x7 x8) (sS S met acc (w :: r)) = .next (r19 S hs ws (some (iw w)) x6 x7 x8) (sS S met acc r) := by
  have h2 : (sS S met acc (w :: r))[S.length + 2]? = some (.lst (.int w :: ivs r)) := at32
  refine ev_asg (ev_meth (ev_var rfl) (live_l h2) (ev_one rfl) ?_)
  rw [m_pop0 h2]
  unfold sS
  rw [set32]
theorem s_app {fa : FA} {ρ : Rho} {d : PyData} {line : List Int} (hv : ρ[3]? = some (some (.loc (S.length + 1)))) (ea : fa ρ (sS S met acc line) = .ok [.d d] (sS S met acc line)) (hz : acc.length < 100000) : fDrop (fMeth mAppend (fVar 3) fa) ρ (sS S met acc line) = .next ρ (sS S met (acc ++ [d]) line) := by
  have h1 : (sS S met acc line)[S.length + 1]? = some (.lst acc) := at31
  refine ev_drop (x := .d .none) (ev_meth (ev_var hv) (live_l h1) ea ?_)
  rw [m_app h1 (by omega)]
  unfold sS
  rw [set31]
theorem s_step (n : Nat) {w : Int} (W : WF hs A) (hw : Wd A w) (hm : met.length ≤ 6000) (ha : acc.length < 100000) (hr : r.length ≤ 100000) :
    ∃ y5 y6 y7 y8, w19 (callN (n + 1)) (r19 S hs ws x5 x6 x7 x8) (sS S met acc (w :: r)) = if w % 2 = 1 then .next (r19 S hs ws y5 y6 y7 y8) (sS S met (acc ++ [.int w]) r) else match idx met (w / 2).toNat with
      | some k => .next (r19 S hs ws y5 y6 y7 y8) (sS S met (acc ++ [.tuple [.str "again", .int (k : Int)]]) r)
      | none => .next (r19 S hs ws y5 y6 y7 y8) (sS S (met ++ [(w / 2).toNat]) (acc ++ [.tuple [.int (hs.getD (w / 2).toNat 0 / 2 % 5), .int (hs.getD (w / 2).toNat 0 / 2 / 5 / 256), .int ((F hs (w / 2).toNat).length : Int)]]) (r ++ F hs (w / 2).toNat)) := by
  have md : ∀ S', gMod (iw w) (iw 2) S' = some (iw (w % 2), S') := fun S' => g_modI (by decide)
  have tst : ∀ k, decide (w % 2 = 1) = k → fTest (f2 gEq (f2 gMod (fL gIntA (fAc (fVar 5) fA0)) (fC (.int 2))) (fC (.int 1))) (r19 S hs ws (some (iw w)) x6 x7 x8) (sS S met acc r) = .ok k (sS S met acc r) := fun k hk => ev_test (ev_f2 (ev_f2 (ev_L (ev_one (ev_var rfl)) g_int) rfl (md _)) rfl (by rw [g_eqI, hk]))
  rcases hw with z | ⟨a, ma, rfl⟩
  · refine ⟨some (iw w), x6, x7, x8, ?_⟩
    rw [if_pos z]
    exact (ev_seq (s_pop n)).trans ((ev_yes (tst true (decide_eq_true z))).trans (s_app rfl (ev_one (ev_var rfl)) ha))
  · have e1 : (2 * (a : Int) / 2).toNat = a := by omega
    have h0 : ∀ (ac : List PyData) (l : List Int), (sS S met ac l)[S.length]? = some (.dK (kz (mz 0 met))) := fun _ _ => at30
    simp only [if_neg (show ¬ (2 * (a : Int) % 2 = 1) by omega), e1]
    have t2 : ∀ k, decide (a ∈ met) = k → fTest (f2 gInD (fVar 5) (fVar 2)) (r19 S hs ws (some (iw (2 * (a : Int)))) x6 x7 x8) (sS S met acc r) = .ok k (sS S met acc r) := fun k hk => ev_test (ev_f2 (ev_var rfl) (ev_var rfl) (by rw [d_in (h0 acc r), decide_eq_decide.mpr mz_mem, hk]))
    cases q : idx met a with
    | some k =>
      refine ⟨some (iw (2 * (a : Int))), x6, x7, x8, ?_⟩
      have gx : gIxA (.loc S.length) (iw (2 * (a : Int))) (sS S met acc r) = some (iw ((k : Nat) : Int), sS S met acc r) := by
        have := mz_val (i := 0) q
        rw [Nat.zero_add] at this
        exact d_get (v := .int _) (h0 acc r) this
      exact (ev_seq (s_pop n)).trans ((ev_no (tst false (decide_eq_false (by omega)))).trans ((ev_yes (t2 true (decide_eq_true (idx_some q)))).trans (s_app rfl (ev_one (ev_L (ws := [.d (.str "again"), iw (k : Int)]) (ev_ac rfl (ev_one (ev_f2 (ev_var rfl) (ev_var rfl) gx))) rfl)) ha)))
    | none =>
      have hn := idx_none q
      refine ⟨some (iw (2 * (a : Int))), some (iw (hs.getD a 0 / 2 % 5)), some (iw (hs.getD a 0 / 2 / 5 / 256)), some (ti (F hs a)), ?_⟩
      refine (ev_seq (s_pop n)).trans ((ev_no (tst false (decide_eq_false (by omega)))).trans ((ev_no (t2 false (decide_eq_false hn))).trans ?_))
      have ln : gLenD [.loc S.length] (sS S met acc r) = some (iw (met.length : Int), sS S met acc r) := by
        unfold gLenD
        simp only [as_dk (h0 acc r), kz_len, mz_len]
      have pt : fDput (fL gLenD (fAc (fVar 2) fA0)) (fVar 2) (fVar 5) (r19 S hs ws (some (iw (2 * (a : Int)))) x6 x7 x8) (sS S met acc r) = .next (r19 S hs ws (some (iw (2 * (a : Int)))) x6 x7 x8) (sS S (met ++ [a]) acc r) := by
        rw [ev_dput (i := 2 * (a : Int)) (v := .int (met.length : Int)) (l := S.length) (ev_L (ev_one (ev_var rfl)) ln) (ev_var rfl) (ev_var rfl) (h0 acc r) (by rw [mz_len]; omega) (fun m => hn (mz_mem.mp m))]
        unfold sS
        rw [set30, mz_app, Nat.zero_add]
      refine (ev_seq pt).trans ?_
      have dv : ∀ S', gDiv (iw (2 * (a : Int))) (iw 2) S' = some (iw (a : Int), S') := fun S' => by rw [g_divI (by decide), show 2 * (a : Int) / 2 = a by omega]
      have f13 : fCall 2 (callN (n + 1) 13) (fAc (fVar 0) (fAc (f2 gDiv (fL gIntA (fAc (fVar 5) fA0)) (fC (.int 2))) fA0)) (r19 S hs ws (some (iw (2 * (a : Int)))) x6 x7 x8) (sS S (met ++ [a]) acc r) = .ok (tu [.int (hs.getD a 0 / 2 % 5), .int (hs.getD a 0 / 2 / 5 / 256), .tuple (ivs (F hs a))]) (sS S (met ++ [a]) acc r) :=
        fcall_at (ws := [ti hs, iw (a : Int)]) (ev_ac (ev_var rfl) (ev_one (ev_f2 (ev_L (ev_one (ev_var rfl)) g_int) rfl (dv _)))) (k_lread n (W.lt ma) (W.ok a ma).2) rfl rfl
      refine (ev_seq (ρ1 := r19 S hs ws (some (iw (2 * (a : Int)))) (some (iw (hs.getD a 0 / 2 % 5))) (some (iw (hs.getD a 0 / 2 / 5 / 256))) (some (ti (F hs a)))) (S1 := sS S (met ++ [a]) acc r) ?_).trans ?_
      · unfold fAsg
        rw [f13]
        rfl
      have ln2 : ∀ S', gLen [ti (F hs a)] S' = some (iw ((F hs a).length : Int), S') := fun S' => by
        show some (iw ((ivs (F hs a)).length : Int), S') = _
        rw [ivs_len]
      refine (ev_seq (s_app rfl (ev_one (ev_L (ws := [iw (hs.getD a 0 / 2 % 5), iw (hs.getD a 0 / 2 / 5 / 256), iw ((F hs a).length : Int)]) (ev_ac (ev_var rfl) (ev_ac (ev_var rfl) (ev_one (ev_L (ev_one (ev_var rfl)) (ln2 _))))) rfl)) ha)).trans ?_
      have h2 : ∀ ac, (sS S (met ++ [a]) ac r)[S.length + 2]? = some (.lst (ivs r)) := fun _ => at32
      have fl : (F hs a).length ≤ 5000 := by
        have t1 := tot_sub (F := F hs) (o := [a]) (A := A) (by simp) (fun b m => by rw [List.mem_singleton.mp m]; exact ma)
        rw [tot_one] at t1
        have := W.sz
        omega
      refine ev_drop (x := .d .none) (ev_meth (ev_var rfl) (live_l (h2 _)) (ev_one (ev_L (ws := [ti (F hs a)]) (ev_one (ev_var rfl)) rfl)) ?_)
      rw [m_ext (h2 _) (by rw [ivs_len, ivs_len]; omega), ← ivs_app]
      unfold sS
      rw [set32]
end
theorem s_loop (n : Nat) {S : Store} {hs ws : List Int} {A : List Nat} (W : WF hs A) : ∀ (m : Nat) (met : List Nat) (acc : List PyData) (line : List Int) (x5 x6 x7 x8 : Option VI.W), met.Nodup → (∀ a ∈ met, a ∈ A) → (∀ w ∈ line, Wd A w) → tot (F hs) (rest A met) + line.length < m → acc.length + tot (F hs) (rest A met) + line.length ≤ 20000 →
    ∃ met' y5 y6 y7 y8, whileL c19 (w19 (callN (n + 1))) m (r19 S hs ws x5 x6 x7 x8) (sS S met acc line) = .next (r19 S hs ws y5 y6 y7 y8) (sS S met' (acc ++ shp hs m met line) [])
  | 0, met, acc, line, _, _, _, _, _, _, _, hm, _ => absurd hm (by omega)
  | m + 1, met, acc, [], x5, x6, x7, x8, nd, sub, hl, hm, hz => by
    refine ⟨met, x5, x6, x7, x8, ?_⟩
    have h2 : (sS S met acc [])[S.length + 2]? = some (.lst (ivs [])) := at32
    have ct : c19 (r19 S hs ws x5 x6 x7 x8) (sS S met acc []) = .ok false (sS S met acc []) := ev_test (ev_f2 (ev_var rfl) (ev_L (ws := []) rfl rfl) (by rw [ne_nil h2]; rfl))
    rw [while_step, ct, toS_ok, if_neg (by decide)]
    unfold shp
    rw [List.append_nil]
  | m + 1, met, acc, w :: r, x5, x6, x7, x8, nd, sub, hl, hm, hz => by
    have h2 : (sS S met acc (w :: r))[S.length + 2]? = some (.lst (ivs (w :: r))) := at32
    have ct : c19 (r19 S hs ws x5 x6 x7 x8) (sS S met acc (w :: r)) = .ok true (sS S met acc (w :: r)) := ev_test (ev_f2 (ev_var rfl) (ev_L (ws := []) rfl rfl) (by rw [ne_nil h2]; rfl))
    rw [while_step, ct, toS_ok, if_pos rfl]
    rw [List.length_cons] at hm hz
    have hw := hl w (by simp)
    have hr : ∀ v ∈ r, Wd A v := fun v m => hl v (List.mem_cons_of_mem _ m)
    have ml : met.length ≤ 6000 := by have := sub_len nd sub; have := W.al; omega
    obtain ⟨z5, z6, z7, z8, st⟩ := s_step (S := S) (hs := hs) (ws := ws) (met := met) (acc := acc) (r := r) (x5 := x5) (x6 := x6) (x7 := x7) (x8 := x8) n W hw ml (by omega) (by omega)
    rw [st]
    unfold shp
    rcases hw with z | ⟨a, ma, rfl⟩
    · rw [if_pos z, if_pos z]
      obtain ⟨met', y5, y6, y7, y8, ih⟩ := s_loop n W m met (acc ++ [.int w]) r z5 z6 z7 z8 nd sub hr (by omega) (by rw [List.length_append]; simp; omega)
      refine ⟨met', y5, y6, y7, y8, ih.trans ?_⟩
      rw [List.append_assoc]
      rfl
    · have e1 : (2 * (a : Int) / 2).toNat = a := by omega
      rw [if_neg (by omega), if_neg (by omega), e1]
      cases q : idx met a with
      | some k =>
        obtain ⟨met', y5, y6, y7, y8, ih⟩ := s_loop n W m met (acc ++ [.tuple [.str "again", .int (k : Int)]]) r z5 z6 z7 z8 nd sub hr (by omega) (by rw [List.length_append]; simp; omega)
        refine ⟨met', y5, y6, y7, y8, ih.trans ?_⟩
        rw [List.append_assoc]
        rfl
      | none =>
        have hn := idx_none q
        have tr := tot_rest (F := F hs) hn W.nd ma
        have sub' : ∀ b ∈ met ++ [a], b ∈ A := fun b m => by
          rcases List.mem_append.mp m with m | m
          · exact sub b m
          · rw [List.mem_singleton.mp m]; exact ma
        have hl' : ∀ v ∈ r ++ F hs a, Wd A v := fun v m => by
          rcases List.mem_append.mp m with m | m
          · exact hr v m
          · exact W.wd a ma v m
        obtain ⟨met', y5, y6, y7, y8, ih⟩ := s_loop n W m (met ++ [a]) (acc ++ [.tuple [.int (hs.getD a 0 / 2 % 5), .int (hs.getD a 0 / 2 / 5 / 256), .int ((F hs a).length : Int)]]) (r ++ F hs a) z5 z6 z7 z8 (nd_snoc nd hn) sub' hl' (by rw [List.length_append]; omega) (by rw [List.length_append, List.length_append]; simp; omega)
        refine ⟨met', y5, y6, y7, y8, ih.trans ?_⟩
        rw [List.append_assoc]
        rfl
def shape (hs ws : List Int) : List PyData := shp hs 1000000 [] ws
theorem k_shape (n : Nat) {S : Store} {hs ws : List Int} {A : List Nat} (W : WF hs A) (hw : ∀ w ∈ ws, Wd A w) (hz : ws.length ≤ 1000) {fa : FA} {ρ : Rho} (ea : fa ρ S = .ok [ti hs, ti ws] S) :
    fCall 2 (callN (n + 2) 19) fa ρ S = .ok (.d (.list (shape hs ws))) S := by
  have wz := W.sz
  have rl := tot_rest_le (F := F hs) (found := []) (A := A)
  obtain ⟨met', y5, y6, y7, y8, lp⟩ := s_loop (S := S) (ws := ws) n W 1000000 [] [] ws none none none none List.nodup_nil (fun _ m => by cases m) hw (by omega) (by simp only [List.length_nil]; omega)
  have k : callN (n + 2) 19 [ti hs, ti ws] S = .ok (.loc (S.length + 1)) (sS S met' (shape hs ws) []) := by
    show toR (b19 (callN (n + 1)) [some (ti hs), some (ti ws), none, none, none, none, none, none, none] S) = _
    unfold b19
    have gl : gListL [ti ws] (S ++ [.dK [], .lst []]) = some (.loc (S.length + 2), S ++ [.dK [], .lst [], .lst (ivs ws)]) := by
      unfold gListL
      show some (VI.W.loc (S ++ [SO.dK [], SO.lst []]).length, (S ++ [SO.dK [], SO.lst []]) ++ [SO.lst (ivs ws)]) = _
      rw [push3, List.length_append]
      rfl
    have gv : fL gLive fA0 [some (ti hs), some (ti ws), none, none, none, none, none, none, none] (S ++ [.dK []]) = .ok (.loc (S.length + 1)) (S ++ [.dK [], .lst []]) := by
      show R.ok (VI.W.loc (S ++ [SO.dK []]).length) ((S ++ [.dK []]) ++ [.lst []]) = _
      rw [List.length_append, push2]
      rfl
    refine ret_ok ((ev_seq (ρ1 := r19 S hs ws none none none none) (S1 := sS S [] [] ws) ?_).trans ((ev_seq lp).trans (ev_ret (ev_var rfl))))
    unfold fPar3
    rw [ev_ac (x := .loc S.length) (ws := [.loc (S.length + 1), .loc (S.length + 2)]) (S1 := S ++ [.dK []]) (S2 := S ++ [.dK [], .lst [], .lst (ivs ws)]) rfl (ev_ac gv (ev_one (ev_L (ev_one (ev_var rfl)) gl)))]
    rfl
  have h1 : (sS S met' (shape hs ws) [])[S.length + 1]? = some (.lst (shape hs ws)) := at31
  unfold fCall
  rw [ea, R_ok, if_pos (by rfl), k]
  unfold frz frzW
  simp only [h1]
  rw [if_neg (by omega)]
  show R.ok (VI.W.d (.list (shape hs ws))) (List.take S.length (S ++ _)) = _
  rw [List.take_left]
end Q9
end VI
set_option Elab.async false
set_option linter.all false
set_option maxRecDepth 100000
namespace VI
open PySem PySem.Spec PyProof.Rows L2
namespace Q9
open C9

/-! blocks one behind the other -/
def adr : Nat → List (List Int) → List Nat
  | _, [] => []
  | p, b :: r => p :: adr (p + b.length) r
theorem adr_mem {a : Nat} : ∀ {bs : List (List Int)} {p : Nat}, a ∈ adr p bs → ∃ b1 b b2, bs = b1 ++ b :: b2 ∧ a = p + b1.flatten.length
  | [], _, h => by cases h
  | b :: r, p, h => by
    rcases List.mem_cons.mp h with e | h
    · exact ⟨[], b, r, rfl, e⟩
    · obtain ⟨b1, c, b2, e1, e2⟩ := adr_mem h
      refine ⟨b :: b1, c, b2, by rw [e1]; rfl, ?_⟩
      rw [e2, List.flatten_cons, List.length_append]
      omega
theorem adr_ge {a : Nat} {bs : List (List Int)} {p : Nat} (h : a ∈ adr p bs) : p ≤ a := by
  obtain ⟨_, _, _, _, e⟩ := adr_mem h
  omega
theorem adr_nd : ∀ {bs : List (List Int)} {p : Nat}, (∀ b ∈ bs, 0 < b.length) → (adr p bs).Nodup
  | [], _, _ => List.nodup_nil
  | b :: r, p, h => List.nodup_cons.mpr ⟨fun m => by have := adr_ge m; have := h b (by simp); omega, adr_nd fun c m => h c (List.mem_cons_of_mem _ m)⟩
structure Blk (A : List Nat) (b : List Int) : Prop where
  ex : ∃ s e : Int, ∃ fs : List Int, b = hdr s e fs.length :: fs ∧ (0 ≤ s ∧ s < 5) ∧ (0 ≤ e ∧ e ≤ 1000000) ∧ fs.length < 256 ∧ ∀ w ∈ fs, Wd A w ∧ w.natAbs ≤ 100000
theorem Blk.pos {A : List Nat} {b : List Int} (h : Blk A b) : 0 < b.length := by
  obtain ⟨s, e, fs, rfl, _⟩ := h.ex
  simp
theorem many_hdr {s e : Int} {m : Nat} (hs : 0 ≤ s ∧ s < 5) (he : 0 ≤ e) (hm : m < 256) : many (hdr s e m) = m := by
  have := (hdr_read (m := (m : Int)) hs he (by omega)).2.2.1
  unfold many
  rw [this, Int.toNat_natCast]
theorem blk_at {A : List Nat} {b r hs : List Int} {a : Nat} (h : Blk A b) (e : hs.drop a = b ++ r) : hs.getD a 0 % 2 = 1 ∧ F hs a = b.tail ∧ a + b.length ≤ hs.length ∧ many (hs.getD a 0) + 1 = b.length := by
  obtain ⟨s, x, fs, rfl, h1, h2, h3, h4⟩ := h.ex
  have g : hs.getD a 0 = hdr s x fs.length := getD_drop e
  have m := many_hdr h1 h2.1 h3
  have e1 : hs.drop (a + 1) = fs ++ r := by
    rw [← List.drop_drop, e]
    rfl
  refine ⟨by rw [g]; exact (hdr_read h1 h2.1 (by omega)).2.2.2, ?_, ?_, by rw [g, m]; rfl⟩
  · show (hs.drop (a + 1)).take (many (hs.getD a 0)) = fs
    rw [g, m, e1, List.take_left]
  · have := congrArg List.length e
    rw [List.length_drop, List.length_append, List.length_cons] at this
    rw [List.length_cons]
    omega
theorem drop_blk {pre post : List Int} {b1 b2 : List (List Int)} {b : List Int} : (pre ++ (b1 ++ b :: b2).flatten ++ post).drop (pre.length + b1.flatten.length) = b ++ (b2.flatten ++ post) := by
  rw [List.flatten_append, List.flatten_cons, ← List.length_append]
  have : pre ++ (b1.flatten ++ (b ++ b2.flatten)) ++ post = (pre ++ b1.flatten) ++ (b ++ (b2.flatten ++ post)) := by simp only [List.append_assoc]
  rw [this, List.drop_left]
theorem tot_blk {pre post : List Int} {A : List Nat} {bs : List (List Int)} (h : ∀ b ∈ bs, Blk A b) : ∀ (b2 b1 : List (List Int)), bs = b1 ++ b2 → tot (F (pre ++ bs.flatten ++ post)) (adr (pre.length + b1.flatten.length) b2) = b2.flatten.length
  | [], _, _ => rfl
  | b :: r, b1, e => by
    have hb := h b (by rw [e]; simp)
    have q := blk_at (hs := pre ++ bs.flatten ++ post) hb (by rw [e]; exact drop_blk)
    have ih := tot_blk (pre := pre) (post := post) h r (b1 ++ [b]) (by rw [e]; simp)
    have e2 : pre.length + (b1 ++ [b]).flatten.length = pre.length + b1.flatten.length + b.length := by simp; omega
    rw [e2] at ih
    show tot _ (_ :: adr (pre.length + b1.flatten.length + b.length) r) = _
    rw [tot_cons, ih, q.2.1, List.length_tail, List.flatten_cons, List.length_append]
    have := hb.pos
    omega
theorem wf_blocks {pre post : List Int} {bs : List (List Int)} (h : ∀ b ∈ bs, Blk (adr pre.length bs) b) (hz : bs.flatten.length ≤ 5000) : WF (pre ++ bs.flatten ++ post) (adr pre.length bs) ∧ tot (F (pre ++ bs.flatten ++ post)) (adr pre.length bs) = bs.flatten.length := by
  have tt := tot_blk (pre := pre) (post := post) h bs [] rfl
  rw [show pre.length + ([] : List (List Int)).flatten.length = pre.length from rfl] at tt
  refine ⟨⟨adr_nd fun b m => (h b m).pos, fun a ma => ?_, fun a ma w mw => ?_, by rw [tt]; exact hz⟩, tt⟩
  · obtain ⟨b1, b, b2, e1, e2⟩ := adr_mem ma
    have hb := h b (by rw [e1]; simp)
    have q := blk_at (hs := pre ++ bs.flatten ++ post) (a := a) hb (by rw [e2]; rw [e1]; exact drop_blk)
    exact ⟨by omega, q.1⟩
  · obtain ⟨b1, b, b2, e1, e2⟩ := adr_mem ma
    have hb := h b (by rw [e1]; simp)
    have q := blk_at (hs := pre ++ bs.flatten ++ post) (a := a) hb (by rw [e2]; rw [e1]; exact drop_blk)
    rw [q.2.1] at mw
    obtain ⟨s, x, fs, rfl, _, _, _, h4⟩ := hb.ex
    exact (h4 w mw).1
theorem blk_bd {pre post : List Int} {A : List Nat} {bs : List (List Int)} (h : ∀ b ∈ bs, Blk A b) (h1 : ∀ w ∈ pre, w = 0) (h2 : ∀ w ∈ post, w = 0) : ∀ w ∈ pre ++ bs.flatten ++ post, w.natAbs < 99999999999 := by
  intro w m
  rcases List.mem_append.mp m with m | m
  · rcases List.mem_append.mp m with m | m
    · rw [h1 w m]; decide
    · obtain ⟨b, mb, mw⟩ := List.mem_flatten.mp m
      obtain ⟨s, e, fs, rfl, hs, he, hf, h4⟩ := (h b mb).ex
      rcases List.mem_cons.mp mw with q | q
      · rw [q]
        unfold hdr
        omega
      · have := (h4 w q).2
        omega
  · rw [h2 w m]; decide

/-! what is drawn -/
theorem T9 (n : Nat) : Taker (callN (n + 1) 9) := fun S l b m h1 h2 h3 h4 => taker S l b m h1 h2 h3 h4
theorem k_take (n : Nat) {S : Store} {l N : Nat} {m : Int} (hb : BG S l N) (hN : N < 2 ^ 59) (hm : 0 < m ∧ m < 1073741824) :
    ∃ v S', callN (n + 1) 9 [.loc l, .d (.int m)] S = .ok (.d (.int v)) S' ∧ (0 ≤ v ∧ v < m) ∧ S'.length = S.length ∧ BG S' l (N + 1) ∧ ∀ j, j ≠ l → S'[j]? = S[j]? := take_bg (T9 n) hb hN hm
theorem k_some (n : Nat) {S : Store} {l N : Nat} {ds : List PyData} (hb : BG S l N) (hN : N < 2 ^ 59) (hd : 0 < ds.length ∧ ds.length < 1073741824) :
    ∃ x S', x ∈ ds ∧ callN (n + 2) 10 [.loc l, .d (.list ds)] S = .ok (.d x) S' ∧ S'.length = S.length ∧ BG S' l (N + 1) ∧ ∀ j, j ≠ l → S'[j]? = S[j]? := some_bg (T9 n) hb hN hd
theorem k_someL (n : Nat) {S : Store} {b l N : Nat} {ds : List PyData} (hb : BG S b N) (hN : N < 2 ^ 59) (hd : 0 < ds.length ∧ ds.length < 1073741824) (hl : S[l]? = some (.lst ds)) (hbl : l ≠ b) :
    ∃ x S', x ∈ ds ∧ callN (n + 2) 10 [.loc b, .loc l] S = .ok (.d x) S' ∧ S'.length = S.length ∧ BG S' b (N + 1) ∧ ∀ j, j ≠ b → S'[j]? = S[j]? := by
  obtain ⟨v, S', e, hv, z, b', o⟩ := k_take n (m := (ds.length : Int)) hb hN ⟨by omega, by omega⟩
  have hl' : S'[l]? = some (.lst ds) := by rw [o l hbl]; exact hl
  have hi : v.toNat < ds.length := by omega
  refine ⟨ds[v.toNat], S', List.getElem_mem _, ?_, z, b', o⟩
  show toR (b10 (callN (n + 1)) [some (.loc b), some (.loc l)] S) = _
  unfold b10
  have f9 : fCall 2 (callN (n + 1) 9) (fAc (fVar 0) (fAc (fL gLen (fAc (fVar 1) fA0)) fA0)) [some (.loc b), some (.loc l)] S = .ok (.d (.int v)) S' := fcall_at (ws := [.loc b, iw (ds.length : Int)]) (ev_ac (ev_var rfl) (ev_one (ev_L (ev_one (ev_var rfl)) (len_l hl)))) e z rfl
  have ix : gIx (.loc l) (iw v) S' = some (.d ds[v.toNat], S') := by
    have := g_ixl hl' (List.getElem?_eq_getElem hi)
    rwa [Int.toNat_of_nonneg hv.1] at this
  exact ret_ok (ev_ret (ev_f2 (ev_var rfl) f9 ix))
theorem k_alike (n : Nat) {w u : W} {d : PyData} {S : Store} (hw : asD w S = some d) (hu : asD u S = some d) (h : Fine d) : callN (n + 1) 11 [w, u] S = .ok (bt true) S := alike_run hw hu h
def srt5 : List PyData := [.int 0, .int 1, .int 4, .int 2, .int 3]
def srt3 : List PyData := [.int 0, .int 1, .int 4]
theorem srt_at {x : PyData} (h : x ∈ srt5 ∨ x ∈ srt3) : ∃ i : Int, x = .int i ∧ 0 ≤ i ∧ i < 5 := by
  simp only [srt5, srt3, List.mem_cons, List.not_mem_nil, or_false] at h
  rcases h with (h | h | h | h | h) | (h | h | h) <;> exact ⟨_, h, by decide, by decide⟩
def ext4 : List PyData := [.int 0, .int 1, .int 2, .int 5]
theorem ext_at {x : PyData} (h : x ∈ ext4) : ∃ i : Int, x = .int i ∧ 0 ≤ i ∧ i ≤ 1000000 := by
  simp only [ext4, List.mem_cons, List.not_mem_nil, or_false] at h
  rcases h with h | h | h | h <;> exact ⟨_, h, by decide, by decide⟩
theorem k_sort (n : Nat) {S : Store} {b N : Nat} {m : Int} (hb : BG S b N) (hN : N + 2 < 2 ^ 58) :
    ∃ s e S', callN (n + 3) 17 [.loc b, iw m, .d (.list ext4)] S = .ok (tu [.int s, .int e]) S' ∧ (0 ≤ s ∧ s < 5) ∧ (0 ≤ e ∧ e ≤ 1000000) ∧ S'.length = S.length ∧ BG S' b (N + 2) ∧ ∀ i, i ≠ b → S'[i]? = S[i]? := by
  have first : ∃ s S1, (fIfE (fTest (f2 gEq (fVar 1) (fC (.int 0)))) (fC (.int 4)) (fCall 2 (callN (n + 2) 10) (fAc (fVar 0) (fAc (fIfE (fTest (f2 gEq (fVar 1) (fC (.int 1)))) (fL gLst (fAc (fC (.int 0)) (fAc (fC (.int 1)) (fAc (fC (.int 4)) (fAc (fC (.int 2)) (fAc (fC (.int 3)) fA0)))))) (fL gLst (fAc (fC (.int 0)) (fAc (fC (.int 1)) (fAc (fC (.int 4)) fA0))))) fA0)))) [some (.loc b), some (iw m), some (.d (.list ext4)), none] S = .ok (iw s) S1 ∧ (0 ≤ s ∧ s < 5) ∧ S1.length = S.length ∧ BG S1 b (N + 1) ∧ ∀ i, i ≠ b → S1[i]? = S[i]? := by
    have t0 : fTest (f2 gEq (fVar 1) (fC (.int 0))) [some (.loc b), some (iw m), some (.d (.list ext4)), none] S = .ok (decide (m = 0)) S := ev_test (ev_f2 (ev_var rfl) rfl ev_eqI)
    have t1 : fTest (f2 gEq (fVar 1) (fC (.int 1))) [some (.loc b), some (iw m), some (.d (.list ext4)), none] S = .ok (decide (m = 1)) S := ev_test (ev_f2 (ev_var rfl) rfl ev_eqI)
    unfold fIfE
    rw [t0, R_ok]
    by_cases h0 : m = 0
    · rw [if_pos (decide_eq_true h0)]
      exact ⟨4, S, rfl, by decide, rfl, hb.mono (by omega), fun _ _ => rfl⟩
    · rw [if_neg (by rw [decide_eq_false h0]; decide)]
      have arg : ∃ L, (L = srt5 ∨ L = srt3) ∧ (fIfE (fTest (f2 gEq (fVar 1) (fC (.int 1)))) (fL gLst (fAc (fC (.int 0)) (fAc (fC (.int 1)) (fAc (fC (.int 4)) (fAc (fC (.int 2)) (fAc (fC (.int 3)) fA0)))))) (fL gLst (fAc (fC (.int 0)) (fAc (fC (.int 1)) (fAc (fC (.int 4)) fA0))))) [some (.loc b), some (iw m), some (.d (.list ext4)), none] S = .ok (.d (.list L)) S := by
        unfold fIfE
        rw [t1, R_ok]
        by_cases h1 : m = 1
        · rw [if_pos (decide_eq_true h1)]
          exact ⟨srt5, .inl rfl, rfl⟩
        · rw [if_neg (by rw [decide_eq_false h1]; decide)]
          exact ⟨srt3, .inr rfl, rfl⟩
      obtain ⟨L, hL, ea⟩ := arg
      obtain ⟨x, S1, mx, e, z, b', o⟩ := k_some n (ds := L) hb (by omega) (by rcases hL with rfl | rfl <;> decide)
      obtain ⟨s, rfl, h1, h2⟩ := srt_at (x := x) (by rcases hL with rfl | rfl; exact .inl mx; exact .inr mx)
      exact ⟨s, S1, fcall_at (ws := [.loc b, .d (.list L)]) (ev_ac rfl (ev_one ea)) e z rfl, ⟨h1, h2⟩, z, b', o⟩
  obtain ⟨s, S1, e1, hs, z1, b1, o1⟩ := first
  have second : ∃ e S2, (fIfE (fTest (f2 gEq (fVar 3) (fC (.int 0)))) (fC (.int 0)) (fCall 2 (callN (n + 2) 10) (fAc (fVar 0) (fAc (fVar 2) fA0)))) [some (.loc b), some (iw m), some (.d (.list ext4)), some (iw s)] S1 = .ok (iw e) S2 ∧ (0 ≤ e ∧ e ≤ 1000000) ∧ S2.length = S1.length ∧ BG S2 b (N + 2) ∧ ∀ i, i ≠ b → S2[i]? = S1[i]? := by
    have t0 : fTest (f2 gEq (fVar 3) (fC (.int 0))) [some (.loc b), some (iw m), some (.d (.list ext4)), some (iw s)] S1 = .ok (decide (s = 0)) S1 := ev_test (ev_f2 (ev_var rfl) rfl ev_eqI)
    unfold fIfE
    rw [t0, R_ok]
    by_cases h0 : s = 0
    · rw [if_pos (decide_eq_true h0)]
      exact ⟨0, S1, rfl, by decide, rfl, b1.mono (by omega), fun _ _ => rfl⟩
    · rw [if_neg (by rw [decide_eq_false h0]; decide)]
      obtain ⟨x, S2, mx, e, z, b', o⟩ := k_some n (ds := ext4) b1 (by omega) (by decide)
      obtain ⟨i, rfl, h1, h2⟩ := ext_at mx
      exact ⟨i, S2, fcall_at (ws := [.loc b, .d (.list ext4)]) rfl e z rfl, ⟨h1, h2⟩, z, b', o⟩
  obtain ⟨e, S2, e2, he, z2, b2, o2⟩ := second
  refine ⟨s, e, S2, ?_, hs, he, by omega, b2, fun i hi => (o2 i hi).trans (o1 i hi)⟩
  show toR (b17 (callN (n + 2)) [some (.loc b), some (iw m), some (.d (.list ext4)), none] S) = _
  unfold b17
  refine ret_ok ((ev_seq (ρ1 := [some (.loc b), some (iw m), some (.d (.list ext4)), some (iw s)]) (S1 := S1) (ev_asg e1)).trans ?_)
  exact ev_ret (ev_L (ws := [iw s, iw e]) (ev_ac rfl (ev_one e2)) rfl)
end Q9
end VI
set_option Elab.async false
set_option linter.all false
set_option maxRecDepth 100000
namespace VI
open PySem PySem.Spec PyProof.Rows L2
namespace Q9
open C9

/-- a list of drawn things -/
theorem lc_draw {el : FE} {P : PyData → Prop} {b l i : Nat} {ρ : Rho} (hbl : l ≠ b) (h : ∀ (w : W) (S : Store) (N : Nat), BG S b N → N < 2 ^ 58 → ∃ x S', P x ∧ el (ρ.set i (some w)) S = .ok (.d x) S' ∧ S'.length = S.length ∧ BG S' b (N + 1) ∧ ∀ j, j ≠ b → S'[j]? = S[j]?) :
    ∀ (ws : List W) (acc : List PyData) (N : Nat) (S : Store), BG S b N → S[l]? = some (.lst acc) → (∀ x ∈ acc, P x) → acc.length + ws.length < 1000 → N + ws.length < 2 ^ 58 →
    ∃ acc' S', lcL (fun _ => True) (gtName i) fYes el ρ l ws S = .ok (.loc l) S' ∧ S'[l]? = some (.lst acc') ∧ (∀ x ∈ acc', P x) ∧ acc'.length = acc.length + ws.length ∧ S'.length = S.length ∧ BG S' b (N + ws.length) ∧ ∀ j, j ≠ b → j ≠ l → S'[j]? = S[j]?
  | [], acc, N, S, hb, hS, ha, hz, hN => ⟨acc, S, by simp only [lcL, if_true], hS, ha, rfl, rfl, hb, fun _ _ _ => rfl⟩
  | w :: ws, acc, N, S, hb, hS, ha, hz, hN => by
    rw [List.length_cons] at hz hN
    obtain ⟨x, S1, gx, e1, z1, b1, o1_⟩ := h w S N hb (by omega)
    have hS1 : S1[l]? = some (.lst acc) := by rw [o1_ l hbl]; exact hS
    have pt : lcPut l (.d x) S1 = some (S1.set l (.lst (acc ++ [x]))) := by
      simp only [lcPut, hS1, if_pos (show acc.length < lim by show acc.length < 16777216; omega)]
    obtain ⟨acc', S', e2, h1, h2, h3, h4, h5, h6⟩ := lc_draw hbl h ws (acc ++ [x]) (N + 1) (S1.set l (.lst (acc ++ [x]))) (b1.setne hbl) (at_set hS1) (fun y m => by
      rcases List.mem_append.mp m with m | m
      · exact ha y m
      · rw [List.mem_singleton.mp m]; exact gx) (by rw [List.length_append, List.length_singleton]; omega) (by omega)
    refine ⟨acc', S', ?_, h1, h2, ?_, ?_, ?_, fun i hi hi2 => ?_⟩
    · rw [lc_step (g := gtName i) trivial rfl e1 z1 pt]
      exact e2
    · rw [h3, List.length_append, List.length_singleton, List.length_cons]; omega
    · rw [h4, List.length_set]; exact z1
    · exact h5.mono (by rw [List.length_cons]; omega)
    · rw [h6 i hi hi2, List.getElem?_set_ne (Ne.symm hi2), o1_ i hi]
theorem nat_of {P : Nat → Prop} : ∀ {ds : List PyData}, (∀ x ∈ ds, ∃ k : Nat, P k ∧ x = .int (k : Int)) → ∃ sz : List Nat, ds = ivs (nat sz) ∧ ∀ k ∈ sz, P k
  | [], _ => ⟨[], rfl, fun _ m => by cases m⟩
  | d :: ds, h => by
    obtain ⟨k, hk, e⟩ := h d (by simp)
    obtain ⟨sz, e2, h2⟩ := nat_of fun x m => h x (List.mem_cons_of_mem _ m)
    refine ⟨k :: sz, by rw [e, e2]; rfl, fun j m => ?_⟩
    rcases List.mem_cons.mp m with q | q
    · rw [q]; exact hk
    · exact h2 j q
theorem nat_len (o : List Nat) : (nat o).length = o.length := List.length_map ..
theorem nat_sum : ∀ sz : List Nat, (nat sz).sum = ((sz.sum : Nat) : Int)
  | [] => rfl
  | k :: sz => by
    show (k : Int) + (nat sz).sum = _
    rw [nat_sum sz, List.sum_cons]
    omega
def adrS : Nat → List Nat → List Nat
  | _, [] => []
  | p, k :: r => p :: adrS (p + (1 + k)) r
theorem adrS_len : ∀ {sz : List Nat} {p : Nat}, (adrS p sz).length = sz.length
  | [], _ => rfl
  | k :: r, p => by show (adrS _ r).length + 1 = _; rw [adrS_len, List.length_cons]
theorem adrS_eq : ∀ {bs : List (List Int)} {sz : List Nat} {p : Nat}, bs.map List.length = sz.map (1 + ·) → adrS p sz = adr p bs
  | [], [], _, _ => rfl
  | b :: bs, k :: sz, p, h => by
    rw [List.map_cons, List.map_cons, List.cons.injEq] at h
    show p :: adrS _ sz = p :: adr _ bs
    rw [adrS_eq h.2, h.1]
  | [], _ :: _, _, h => by cases h
  | _ :: _, [], _, h => by cases h
theorem adrS_le : ∀ {sz : List Nat} {p a : Nat}, a ∈ adrS p sz → a < p + (sz.sum + sz.length)
  | [], _, _, h => by cases h
  | k :: r, p, a, h => by
    rw [List.sum_cons, List.length_cons]
    rcases List.mem_cons.mp h with e | h
    · omega
    · have := adrS_le h
      omega
/-! the first loop -/
abbrev r18 (sz : List Nat) (hf rm : Int) (at_ : Int) (x8 x9 x10 x11 x12 x13 : Option W) : Rho := [some (.loc 0), some (li (nat sz)), none, some (iw hf), some (iw rm), some (.loc 1), some (.loc 2), some (iw at_), x8, x9, x10, x11, x12, x13]
noncomputable abbrev pb18 : FS := (fSeq (fDrop (fMeth mAppend (fVar 6) (fAc (fVar 7) fA0))) (fAug 7 (gI2 (fun _ _ => true) fun i j => .int (i + j)) (f2 gAdd (fC (.int 1)) (fVar 8))))
theorem set_set {S : Store} {i : Nat} {a b : SO} : (S.set i a).set i b = S.set i b := List.set_set ..
theorem places_loop {sz : List Nat} {hf rm : Int} {ok : Store → Prop} (hok : ∀ S, ok S) : ∀ (ks : List Nat) (acc : List Nat) (p : Nat) (x8 : Option W) (S : Store), S[2]? = some (.lst (ivs (nat acc))) → acc.length + ks.length < 1000 →
    ∃ at' x8', forL ok (gtName 8) pb18 ((ivs (nat ks)).map W.d) (r18 sz hf rm (p : Int) x8 none none none none none) S = .next (r18 sz hf rm at' x8' none none none none none) (S.set 2 (.lst (ivs (nat (acc ++ adrS p ks)))))
  | [], acc, p, x8, S, h, _ => ⟨_, x8, by
    show forL _ _ _ [] _ _ = _
    rw [forL, if_pos (hok _), show adrS p [] = [] from rfl, List.append_nil, set_same h]⟩
  | k :: ks, acc, p, x8, S, h, hz => by
    rw [List.length_cons] at hz
    have h1 : (S.set 2 (.lst (ivs (nat (acc ++ [p])))))[2]? = some (.lst (ivs (nat (acc ++ [p])))) := at_set h
    obtain ⟨at', x8', ih⟩ := places_loop (sz := sz) (hf := hf) (rm := rm) hok ks (acc ++ [p]) (p + (1 + k)) (some (iw (k : Int))) (S.set 2 (.lst (ivs (nat (acc ++ [p]))))) h1 (by rw [List.length_append, List.length_singleton]; omega)
    refine ⟨at', x8', ?_⟩
    have st : pb18 (r18 sz hf rm (p : Int) (some (iw (k : Int))) none none none none none) S = .next (r18 sz hf rm ((p + (1 + k) : Nat) : Int) (some (iw (k : Int))) none none none none none) (S.set 2 (.lst (ivs (nat (acc ++ [p]))))) := by
      refine (ev_seq (ρ1 := r18 sz hf rm (p : Int) (some (iw (k : Int))) none none none none none) (S1 := S.set 2 (.lst (ivs (nat (acc ++ [p]))))) (ev_drop (x := .d .none) (ev_meth (ev_var rfl) (live_l h) (ev_one (ev_var rfl)) ?_))).trans ?_
      · rw [m_app h (by rw [ivs_len, nat_len]; omega)]
        congr 5
        unfold ivs nat
        simp
      · have e : ((p + (1 + k) : Nat) : Int) = (p : Int) + (1 + (k : Int)) := by omega
        rw [e]
        rfl
    show forL ok (gtName 8) _ (iw (k : Int) :: (ivs (nat ks)).map W.d) _ _ = _
    rw [forL, if_pos (hok _)]
    show (match pb18 (r18 sz hf rm (p : Int) (some (iw (k : Int))) none none none none none) S with
      | .next ρ2 S2 => forL ok (gtName 8) pb18 ((ivs (nat ks)).map W.d) ρ2 S2
      | .cnt ρ2 S2 => forL ok (gtName 8) pb18 ((ivs (nat ks)).map W.d) ρ2 S2
      | .brk ρ2 S2 => .next ρ2 S2
      | r => r) = _
    rw [st]
    refine ih.trans ?_
    rw [set_set, List.append_assoc]
    rfl
/-! a word -/
def imm4 : List PyData := [.int 11, .int 5, .int 13, .int (-29)]
theorem imm_at {x : PyData} (h : x ∈ imm4) : ∃ i : Int, x = .int i ∧ i % 2 = 1 ∧ i.natAbs ≤ 100000 := by
  simp only [imm4, List.mem_cons, List.not_mem_nil, or_false] at h
  rcases h with h | h | h | h <;> exact ⟨_, h, by decide, by decide⟩
noncomputable abbrev wE (call : Calls) : FE := (fIfE (fTest (f2 gGt (fCall 2 (call 9) (fAc (fVar 0) (fAc (fC (.int 3)) fA0))) (fC (.int 0)))) (f2 gMulA (fC (.int 2)) (fCall 2 (call 10) (fAc (fVar 0) (fAc (fVar 6) fA0)))) (fCall 2 (call 10) (fAc (fVar 0) (fAc (fL gLst (fAc (fC (.int 11)) (fAc (fC (.int 5)) (fAc (fC (.int 13)) (fAc (f1 gNeg (fC (.int 29))) fA0))))) fA0))))
theorem word_one (n : Nat) {S : Store} {N : Nat} {ρ : Rho} {A : List Nat} (h0 : ρ[0]? = some (some (.loc 0))) (h6 : ρ[6]? = some (some (.loc 2))) (hb : BG S 0 N) (hN : N + 2 < 2 ^ 58) (hp : S[2]? = some (.lst (ivs (nat A)))) (hA : 0 < A.length ∧ A.length < 1000) (hz : ∀ a ∈ A, a ≤ 10000) :
    ∃ (w : Int) (S' : Store), (Wd A w ∧ w.natAbs ≤ 100000) ∧ wE (callN (n + 2)) ρ S = .ok (iw w) S' ∧ S'.length = S.length ∧ BG S' 0 (N + 2) ∧ ∀ j, j ≠ 0 → S'[j]? = S[j]? := by
  obtain ⟨v, S1, e1, hv, z1, b1, o1⟩ := k_take (n + 1) (m := 3) hb (by omega) (by decide)
  have f9 : fCall 2 (callN (n + 2) 9) (fAc (fVar 0) (fAc (fC (.int 3)) fA0)) ρ S = .ok (iw v) S1 := fcall_at (ws := [.loc 0, iw 3]) (ev_ac (ev_var h0) (ev_one rfl)) e1 z1 rfl
  have tst : fTest (f2 gGt (fCall 2 (callN (n + 2) 9) (fAc (fVar 0) (fAc (fC (.int 3)) fA0))) (fC (.int 0))) ρ S = .ok (decide (0 < v)) S1 := ev_test (ev_f2 f9 rfl rfl)
  by_cases q : 0 < v
  · rw [decide_eq_true q] at tst
    have hp1 : S1[2]? = some (.lst (ivs (nat A))) := by rw [o1 2 (by decide)]; exact hp
    obtain ⟨x, S2, mx, e2, z2, b2, o2⟩ := k_someL n b1 (by omega) (ds := ivs (nat A)) (by rw [ivs_len, nat_len]; omega) hp1 (by decide)
    obtain ⟨i, mi, rfl⟩ := List.mem_map.mp mx
    obtain ⟨a, ma, rfl⟩ := List.mem_map.mp mi
    have f10 : fCall 2 (callN (n + 2) 10) (fAc (fVar 0) (fAc (fVar 6) fA0)) ρ S1 = .ok (iw (a : Int)) S2 := fcall_at (ws := [.loc 0, .loc 2]) (ev_ac (ev_var h0) (ev_one (ev_var h6))) e2 z2 rfl
    have := hz a ma
    exact ⟨2 * (a : Int), S2, ⟨.inr ⟨a, ma, rfl⟩, by omega⟩, (ev_ify tst).trans (ev_f2 rfl f10 (g_mul (by decide) (by omega))), by omega, b2, fun j hj => (o2 j hj).trans (o1 j hj)⟩
  · rw [decide_eq_false q] at tst
    obtain ⟨x, S2, mx, e2, z2, b2, o2⟩ := k_some n (ds := imm4) b1 (by omega) (by decide)
    obtain ⟨i, rfl, hi, hi2⟩ := imm_at mx
    have f10 : fCall 2 (callN (n + 2) 10) (fAc (fVar 0) (fAc (fL gLst (fAc (fC (.int 11)) (fAc (fC (.int 5)) (fAc (fC (.int 13)) (fAc (f1 gNeg (fC (.int 29))) fA0))))) fA0)) ρ S1 = .ok (iw i) S2 := fcall_at (ws := [.loc 0, .d (.list imm4)]) (ev_ac (ev_var h0) (ev_one rfl)) e2 z2 rfl
    exact ⟨i, S2, ⟨.inl hi, hi2⟩, (ev_ifn tst).trans f10, by omega, b2, fun j hj => (o2 j hj).trans (o1 j hj)⟩
/-! a block -/
theorem k_sort0 (n : Nat) {S : Store} {N : Nat} {m : Int} {ρ : Rho} (h0 : ρ[0]? = some (some (.loc 0))) (h8 : ρ[8]? = some (some (iw m))) (hb : BG S 0 N) (hN : N + 2 < 2 ^ 58) :
    ∃ s e S', fCall 3 (callN (n + 3) 17) (fAc (fVar 0) (fAc (fVar 8) (fAc (fL gLst (fAc (fC (.int 0)) (fAc (fC (.int 1)) (fAc (fC (.int 2)) (fAc (fC (.int 5)) fA0))))) fA0))) ρ S = .ok (tu [.int s, .int e]) S' ∧ (0 ≤ s ∧ s < 5) ∧ (0 ≤ e ∧ e ≤ 1000000) ∧ S'.length = S.length ∧ BG S' 0 (N + 2) ∧ ∀ i, i ≠ 0 → S'[i]? = S[i]? := by
  obtain ⟨s, e, S', h1, h2, h3, h4, h5, h6⟩ := k_sort n (m := m) hb hN
  exact ⟨s, e, S', fcall_at (ws := [.loc 0, iw m, .d (.list ext4)]) (ev_ac (ev_var h0) (ev_ac (ev_var h8) (ev_one rfl))) h1 h4 rfl, h2, h3, h4, h5, h6⟩
noncomputable abbrev bb18 (call : Calls) : FS := (fSeq (fAsg (fCall 3 (call 17) (fAc (fVar 0) (fAc (fVar 8) (fAc (fL gLst (fAc (fC (.int 0)) (fAc (fC (.int 1)) (fAc (fC (.int 2)) (fAc (fC (.int 5)) fA0))))) fA0)))) (gtTup 2 (gtCons (gtName 10) (gtCons (gtName 11) gtNil)))) (fSeq (fAsg (fL gLive fA0) (gtName 12)) (fSeq (fFor (fRng rng1 (fAc (fVar 8) fA0)) (gtName 13) (fDrop (fMeth mAppend (fVar 12) (fAc (wE call) fA0)))) (fStoreSl (f2 gAdd (fL gLst (fAc (fCall 3 (call 12) (fAc (fVar 10) (fAc (fVar 11) (fAc (fVar 8) fA0)))) fA0)) (fVar 12)) (fVar 5) (fVar 9) (f2 gAdd (f2 gAdd (fVar 9) (fC (.int 1))) (fVar 8))))))
structure St18 (A : List Nat) (heap : List Int) (N : Nat) (S : Store) : Prop where
  b : BG S 0 N
  h1 : S[1]? = some (.lst (ivs heap))
  h2 : S[2]? = some (.lst (ivs (nat A)))
  ln : 3 ≤ S.length
theorem block_one (n : Nat) {sz A : List Nat} {hf rm at_ : Int} {x10 x11 x12 x13 : Option W} {S : Store} {N p k : Nat} {pre post : List Int} (h : St18 A (pre ++ Z (1 + k) ++ post) N S) (hp : pre.length = p) (hk : k ≤ 3) (hN : N + 10 < 2 ^ 58) (hA : 0 < A.length ∧ A.length < 1000) (hz : ∀ a ∈ A, a ≤ 10000) (hl : (pre ++ Z (1 + k) ++ post).length ≤ 100000) :
    ∃ b y10 y11 y12 y13 S', Blk A b ∧ b.length = 1 + k ∧ bb18 (callN (n + 3)) (r18 sz hf rm at_ (some (iw (k : Int))) (some (iw (p : Int))) x10 x11 x12 x13) S = .next (r18 sz hf rm at_ (some (iw (k : Int))) (some (iw (p : Int))) y10 y11 y12 y13) S' ∧ St18 A (pre ++ b ++ post) (N + 10) S' := by
  obtain ⟨s, e, S1, e1, hs, he, z1, b1, o1⟩ := k_sort0 n (ρ := r18 sz hf rm at_ (some (iw (k : Int))) (some (iw (p : Int))) x10 x11 x12 x13) (m := (k : Int)) rfl rfl h.b (by omega)
  have ln := h.ln
  have l1 : (S1 ++ [SO.lst []]).length = S1.length + 1 := by rw [List.length_append]; rfl
  have inv := for_invB (m := k) (i := 13) (b := fDrop (fMeth mAppend (fVar 12) (fAc (wE (callN (n + 3))) fA0)))
    (I := fun j ρ S2 => ∃ x13 fs, ρ = r18 sz hf rm at_ (some (iw (k : Int))) (some (iw (p : Int))) (some (iw s)) (some (iw e)) (some (.loc S1.length)) x13 ∧ S2[S1.length]? = some (.lst (ivs fs)) ∧ fs.length = j ∧ (∀ w ∈ fs, Wd A w ∧ w.natAbs ≤ 100000) ∧ BG S2 0 (N + 2 + 2 * j) ∧ S2[1]? = some (.lst (ivs (pre ++ Z (1 + k) ++ post))) ∧ S2[2]? = some (.lst (ivs (nat A))) ∧ S2.length = S1.length + 1)
    (fun j w ρ S2 hj ⟨x13, fs, er, q1, q2, q3, q4, q5, q6, q7⟩ => by
      subst er
      obtain ⟨v, S3, hv, ev, z3, b3, o3⟩ := word_one (n + 1) (ρ := r18 sz hf rm at_ (some (iw (k : Int))) (some (iw (p : Int))) (some (iw s)) (some (iw e)) (some (.loc S1.length)) (some w)) rfl rfl q4 (by omega) q6 hA hz
      have q1' : S3[S1.length]? = some (.lst (ivs fs)) := by rw [o3 _ (by omega)]; exact q1
      refine ⟨_, S3.set S1.length (.lst (ivs (fs ++ [v]))), ev_drop (x := .d .none) (ev_meth (S1 := S2) (ev_var rfl) (live_l q1) (ev_one ev) ?_), some w, fs ++ [v], rfl, at_set q1', by rw [List.length_append, q2]; rfl, fun u mu => ?_, ?_, ?_, ?_, ?_⟩
      · rw [m_app q1' (by rw [ivs_len]; omega), ivs_app]
        rfl
      · rcases List.mem_append.mp mu with m | m
        · exact q3 u m
        · rw [List.mem_singleton.mp m]; exact hv
      · exact (b3.setne (by omega)).mono (by omega)
      · rw [List.getElem?_set_ne (by omega), o3 _ (by decide)]; exact q5
      · rw [List.getElem?_set_ne (by omega), o3 _ (by decide)]; exact q6
      · rw [List.length_set, z3]; exact q7)
    (rangeW 0 k) 0 (r18 sz hf rm at_ (some (iw (k : Int))) (some (iw (p : Int))) (some (iw s)) (some (iw e)) (some (.loc S1.length)) x13) (S1 ++ [.lst []]) (by rw [rangeW_len]; omega)
    ⟨x13, [], rfl, at0, rfl, (fun _ m => by cases m), (b1.push _).mono (by omega), by rw [List.getElem?_append_left (by omega), o1 _ (by decide)]; exact h.h1, by rw [List.getElem?_append_left (by omega), o1 _ (by decide)]; exact h.h2, l1⟩
  obtain ⟨ρ2, S2, e2, y13, fs, er, q1, q2, q3, q4, q5, q6, q7⟩ := inv
  rw [rangeW_len, Nat.zero_add] at q2 q4
  subst er
  refine ⟨hdr s e fs.length :: fs, some (iw s), some (iw e), some (.loc S1.length), y13, S2.set 1 (.lst (ivs (pre ++ (hdr s e fs.length :: fs) ++ post))), ⟨⟨s, e, fs, rfl, hs, he, by omega, q3⟩⟩, by rw [List.length_cons]; omega, ?_, ⟨(q4.setne (by decide)).mono (by omega), at_set q5, by rw [List.getElem?_set_ne (by decide)]; exact q6, by rw [List.length_set]; omega⟩⟩
  refine (ev_seq (ρ1 := r18 sz hf rm at_ (some (iw (k : Int))) (some (iw (p : Int))) (some (iw s)) (some (iw e)) x12 x13) (S1 := S1) ?_).trans ?_
  · unfold fAsg
    rw [e1]
    rfl
  refine (ev_seq (ρ1 := r18 sz hf rm at_ (some (iw (k : Int))) (some (iw (p : Int))) (some (iw s)) (some (iw e)) (some (.loc S1.length)) x13) (S1 := S1 ++ [.lst []]) (ev_asg (i := 12) (x := .loc S1.length) (ev_L (ws := []) (S1 := S1) rfl rfl))).trans ?_
  refine (ev_seq (ρ1 := r18 sz hf rm at_ (some (iw (k : Int))) (some (iw (p : Int))) (some (iw s)) (some (iw e)) (some (.loc S1.length)) y13) (S1 := S2) ?_).trans ?_
  · unfold fFor
    have rg : fRng rng1 (fAc (fVar 8) fA0) (r18 sz hf rm at_ (some (iw (k : Int))) (some (iw (p : Int))) (some (iw s)) (some (iw e)) (some (.loc S1.length)) x13) (S1 ++ [.lst []]) = .ok ⟨rangeW 0 k, fun _ => True⟩ (S1 ++ [.lst []]) := by
      unfold fRng
      have ea : fAc (fVar 8) fA0 (r18 sz hf rm at_ (some (iw (k : Int))) (some (iw (p : Int))) (some (iw s)) (some (iw e)) (some (.loc S1.length)) x13) (S1 ++ [.lst []]) = .ok [iw (k : Int)] (S1 ++ [.lst []]) := ev_one (ev_var rfl)
      rw [ea, R_ok]
      exact rng_at k (by omega)
    rw [rg]
    exact e2
  · have hd := k_header (n + 2) (S := S2) (s := s) (e := e) (m := (k : Int)) hs he (by omega)
    have f12 : fCall 3 (callN (n + 3) 12) (fAc (fVar 10) (fAc (fVar 11) (fAc (fVar 8) fA0))) (r18 sz hf rm at_ (some (iw (k : Int))) (some (iw (p : Int))) (some (iw s)) (some (iw e)) (some (.loc S1.length)) y13) S2 = .ok (iw (hdr s e k)) S2 := fcall_at (ws := [iw s, iw e, iw (k : Int)]) (ev_ac (ev_var rfl) (ev_ac (ev_var rfl) (ev_one (ev_var rfl)))) hd rfl rfl
    have ad : gAdd (.d (.list [.int (hdr s e k)])) (.loc S1.length) S2 = some (li (hdr s e fs.length :: fs), S2) := by
      unfold gAdd
      simp only [asL, q1]
      rw [if_pos (show [PyData.int (hdr s e k)].length + (ivs fs).length ≤ lim by rw [ivs_len]; show 1 + _ ≤ 16777216; omega), q2]
      rfl
    have st : gSetSl (.loc 1) (iw (p : Int)) (iw ((p : Int) + 1 + (k : Int))) (li (hdr s e fs.length :: fs)) S2 = some (S2.set 1 (.lst (ivs (pre ++ (hdr s e fs.length :: fs) ++ post)))) := by
      have lb : (hdr s e fs.length :: fs).length = 1 + k := by rw [List.length_cons]; omega
      unfold gSetSl
      simp only [q5]
      rw [if_pos]
      · congr 3
        have e1 : ((p : Int)).toNat = p := Int.toNat_natCast _
        have e2 : ((p : Int) + 1 + (k : Int)).toNat = p + (1 + k) := by omega
        rw [e1, e2]
        have lp : (ivs pre).length = p := by rw [ivs_len, hp]
        have e3 : ivs (pre ++ Z (1 + k) ++ post) = ivs pre ++ (ivs (Z (1 + k)) ++ ivs post) := by rw [ivs_app, ivs_app, List.append_assoc]
        have lz : (ivs (Z (1 + k))).length = 1 + k := by rw [ivs_len, Z_len]
        have d1 : (ivs (pre ++ Z (1 + k) ++ post)).take p = ivs pre := by rw [e3, ← lp, List.take_left]
        have d2 : (ivs (pre ++ Z (1 + k) ++ post)).drop (p + (1 + k)) = ivs post := by
          rw [e3, ← lp, ← List.drop_drop, List.drop_left, List.drop_left' lz]
        rw [d1, d2, ivs_app, ivs_app, List.append_assoc]
      · rw [ivs_len, ivs_len, lb]
        rw [List.length_append, List.length_append, Z_len, hp] at hl ⊢
        refine ⟨by omega, by omega, by omega, ?_⟩
        show _ ≤ 16777216
        omega
    have evs : f2 gAdd (fL gLst (fAc (fCall 3 (callN (n + 3) 12) (fAc (fVar 10) (fAc (fVar 11) (fAc (fVar 8) fA0)))) fA0)) (fVar 12) (r18 sz hf rm at_ (some (iw (k : Int))) (some (iw (p : Int))) (some (iw s)) (some (iw e)) (some (.loc S1.length)) y13) S2 = .ok (li (hdr s e fs.length :: fs)) S2 := ev_f2 (ev_L (ws := [iw (hdr s e k)]) (ev_one f12) rfl) (ev_var rfl) ad
    unfold fStoreSl
    rw [evs]
    simp only [fSeq, fAsg, fVar, fC, f1, f2, fL, fAc, fA0, fTest, fAndT, fOrT, fNotT, fTru, fAndV, fOrV, fIfE, fIf, fRet, fAug, fDrop, fSl, fPart, fNoPart, intOf, gtName, R_ok, toS_ok, lift_some, boolW_ok, truR_b, List.getElem?_cons_zero, List.getElem?_cons_succ, List.set_cons_zero, List.set_cons_succ, g_addI, st]
end Q9
end VI
set_option Elab.async false
set_option linter.all false
set_option maxRecDepth 100000
namespace VI
open PySem PySem.Spec PyProof.Rows L2
namespace Q9
open C9

theorem blocks_loop (n : Nat) {sz A : List Nat} {hf rm at_ : Int} {ok : Store → Prop} (hok : ∀ S, S[2]? = some (.lst (ivs (nat A))) → ok S) (hA : A.length < 1000) (hz : ∀ a ∈ A, a ≤ 10000) {p0 : Nat} : ∀ (ks : List Nat) (bs : List (List Int)) (q N : Nat) (x8 x9 x10 x11 x12 x13 : Option W) (S : Store),
    St18 A (Z p0 ++ bs.flatten ++ Z q) N S → ks.sum + ks.length ≤ q → (∀ k ∈ ks, k ≤ 3) → N + 10 * ks.length < 2 ^ 58 → p0 + bs.flatten.length + q ≤ 100000 → (ks ≠ [] → 0 < A.length) →
    ∃ bs' y8 y9 y10 y11 y12 y13 S', forL ok (gtTup 2 (gtCons (gtName 9) (gtCons (gtName 8) gtNil))) (bb18 (callN (n + 3))) (List.zipWith pairW ((ivs (nat (adrS (p0 + bs.flatten.length) ks))).map W.d) ((ivs (nat ks)).map W.d)) (r18 sz hf rm at_ x8 x9 x10 x11 x12 x13) S = .next (r18 sz hf rm at_ y8 y9 y10 y11 y12 y13) S' ∧
      St18 A (Z p0 ++ (bs ++ bs').flatten ++ Z (q - (ks.sum + ks.length))) (N + 10 * ks.length) S' ∧ (∀ b ∈ bs', Blk A b) ∧ bs'.map List.length = ks.map (1 + ·)
  | [], bs, q, N, x8, x9, x10, x11, x12, x13, S, h, hq, h3, hN, hl, h0 => by
    refine ⟨[], x8, x9, x10, x11, x12, x13, S, ?_, ?_, (fun _ m => by cases m), rfl⟩
    · show forL _ _ _ [] _ _ = _
      rw [forL, if_pos (hok S h.h2)]
    · rw [List.append_nil]
      exact h
  | k :: ks, bs, q, N, x8, x9, x10, x11, x12, x13, S, h, hq, h3, hN, hl, h0 => by
    rw [List.sum_cons, List.length_cons] at hq
    rw [List.length_cons] at hN
    have eq : Z q = Z (1 + k) ++ Z (q - (1 + k)) := by rw [← Z_add]; congr 1; omega
    have h' : St18 A ((Z p0 ++ bs.flatten) ++ Z (1 + k) ++ Z (q - (1 + k))) N S := by
      rw [List.append_assoc, ← eq]
      exact h
    have lp : (Z p0 ++ bs.flatten).length = p0 + bs.flatten.length := by rw [List.length_append, Z_len]
    obtain ⟨b, z10, z11, z12, z13, S1, hb, lb, e1, s1⟩ := block_one n (sz := sz) (hf := hf) (rm := rm) (at_ := at_) (x10 := x10) (x11 := x11) (x12 := x12) (x13 := x13) h' lp (h3 k (by simp)) (by omega) ⟨h0 (by simp), hA⟩ hz (by simp only [List.length_append, Z_len]; omega)
    have fl : (bs ++ [b]).flatten = bs.flatten ++ b := by simp
    have s1' : St18 A (Z p0 ++ (bs ++ [b]).flatten ++ Z (q - (1 + k))) (N + 10) S1 := by
      rw [fl, ← List.append_assoc]
      exact s1
    have pe : p0 + (bs ++ [b]).flatten.length = p0 + bs.flatten.length + (1 + k) := by rw [fl, List.length_append, lb]; omega
    obtain ⟨bs', y8, y9, y10, y11, y12, y13, S2, e2, s2, g1, g2⟩ := blocks_loop n (sz := sz) (hf := hf) (rm := rm) (at_ := at_) hok hA hz (p0 := p0) ks (bs ++ [b]) (q - (1 + k)) (N + 10) (some (iw (k : Int))) (some (iw ((p0 + bs.flatten.length : Nat) : Int))) z10 z11 z12 z13 S1 s1' (by omega) (fun j m => h3 j (List.mem_cons_of_mem _ m)) (by omega) (by rw [pe]; omega) (fun _ => h0 (by simp))
    refine ⟨b :: bs', y8, y9, y10, y11, y12, y13, S2, ?_, ?_, ?_, ?_⟩
    · show forL ok _ _ (W.d (.tuple [.int ((p0 + bs.flatten.length : Nat) : Int), .int (k : Int)]) :: List.zipWith pairW ((ivs (nat (adrS (p0 + bs.flatten.length + (1 + k)) ks))).map W.d) ((ivs (nat ks)).map W.d)) _ _ = _
      rw [forL, if_pos (hok S h.h2)]
      show (match bb18 (callN (n + 3)) (r18 sz hf rm at_ (some (iw (k : Int))) (some (iw ((p0 + bs.flatten.length : Nat) : Int))) x10 x11 x12 x13) S with
        | .next ρ2 S2 => forL ok (gtTup 2 (gtCons (gtName 9) (gtCons (gtName 8) gtNil))) (bb18 (callN (n + 3))) (List.zipWith pairW ((ivs (nat (adrS (p0 + bs.flatten.length + (1 + k)) ks))).map W.d) ((ivs (nat ks)).map W.d)) ρ2 S2
        | .cnt ρ2 S2 => forL ok (gtTup 2 (gtCons (gtName 9) (gtCons (gtName 8) gtNil))) (bb18 (callN (n + 3))) (List.zipWith pairW ((ivs (nat (adrS (p0 + bs.flatten.length + (1 + k)) ks))).map W.d) ((ivs (nat ks)).map W.d)) ρ2 S2
        | .brk ρ2 S2 => .next ρ2 S2
        | r => r) = _
      rw [e1]
      rw [pe] at e2
      exact e2
    · have e3 : bs ++ [b] ++ bs' = bs ++ b :: bs' := by simp
      rw [e3] at s2
      have e4 : q - (1 + k) - (ks.sum + ks.length) = q - ((k :: ks).sum + (k :: ks).length) := by rw [List.sum_cons, List.length_cons]; omega
      have e5 : N + 10 + 10 * ks.length = N + 10 * (k :: ks).length := by rw [List.length_cons]; omega
      rw [e4, e5] at s2
      exact s2
    · intro c m
      rcases List.mem_cons.mp m with e | m
      · rw [e]; exact hb
      · exact g1 c m
    · rw [List.map_cons, List.map_cons, lb, g2]
/-- a heap that the law draws -/
structure Drawn (hs : List Int) (A : List Nat) (rm hf : Nat) : Prop where
  W : WF hs A
  cap : tot (F hs) A ≤ rm
  rz : rm ≤ 5000
  hf : hf = 0 ∨ hf = 1
  bd : ∀ w ∈ hs, w.natAbs < 99999999999
  az : ∀ a ∈ A, a ≤ 10000
  al : A.length < 1000
  hl : hs.length ≤ 10000
def cnts : List PyData := [.int 6, .int 3, .int 14, .int 0, .int 9]
theorem cnt_at {x : PyData} (h : x ∈ cnts) : ∃ k : Nat, x = .int (k : Int) ∧ k ≤ 14 := by
  simp only [cnts, List.mem_cons, List.not_mem_nil, or_false] at h
  rcases h with h | h | h | h | h
  · exact ⟨6, h, by decide⟩
  · exact ⟨3, h, by decide⟩
  · exact ⟨14, h, by decide⟩
  · exact ⟨0, h, by decide⟩
  · exact ⟨9, h, by decide⟩
def ext3 : List PyData := [.int 0, .int 0, .int 3, .int 20]
theorem ext3_at {x : PyData} (h : x ∈ ext3) : ∃ k : Nat, x = .int (k : Int) ∧ k ≤ 20 := by
  simp only [ext3, List.mem_cons, List.not_mem_nil, or_false] at h
  rcases h with h | h | h | h
  · exact ⟨0, h, by decide⟩
  · exact ⟨0, h, by decide⟩
  · exact ⟨3, h, by decide⟩
  · exact ⟨20, h, by decide⟩
theorem sum_le3 : ∀ {sz : List Nat}, (∀ k ∈ sz, k ≤ 3) → sz.sum ≤ 3 * sz.length
  | [], _ => Nat.zero_le _
  | k :: sz, h => by
    have := h k (by simp)
    have := sum_le3 (sz := sz) fun j m => h j (List.mem_cons_of_mem _ m)
    rw [List.sum_cons, List.length_cons]
    omega
noncomputable abbrev cE18 (call : Calls) : FE := fLc (fRng rng1 (fAc (fCall 2 (call 10) (fAc (fVar 0) (fAc (fL gLst (fAc (fC (.int 6)) (fAc (fC (.int 3)) (fAc (fC (.int 14)) (fAc (fC (.int 0)) (fAc (fC (.int 9)) fA0)))))) fA0))) fA0)) (gtName 2) fYes (fCall 2 (call 9) (fAc (fVar 0) (fAc (fC (.int 4)) fA0))) [2]
abbrev r18a : Rho := [some (.loc 0), none, none, none, none, none, none, none, none, none, none, none, none, none]
theorem sizes_drawn (n : Nat) {S : Store} {N : Nat} (hb : BG S 0 N) (hN : N + 100 < 2 ^ 58) (h1 : S.length = 1) :
    ∃ sz S', cE18 (callN (n + 2)) r18a S = .ok (li (nat sz)) S' ∧ sz.length ≤ 14 ∧ (∀ k ∈ sz, k ≤ 3) ∧ S'.length = 1 ∧ BG S' 0 (N + 15) := by
  obtain ⟨x, S1, mx, e1, z1, b1, o1⟩ := k_some n (ds := cnts) hb (by omega) (by decide)
  obtain ⟨m, rfl, hm⟩ := cnt_at mx
  have f10 : fCall 2 (callN (n + 2) 10) (fAc (fVar 0) (fAc (fL gLst (fAc (fC (.int 6)) (fAc (fC (.int 3)) (fAc (fC (.int 14)) (fAc (fC (.int 0)) (fAc (fC (.int 9)) fA0)))))) fA0)) r18a S = .ok (iw (m : Int)) S1 := fcall_at (ws := [.loc 0, .d (.list cnts)]) (ev_ac (ev_var rfl) (ev_one rfl)) e1 z1 rfl
  have it : fRng rng1 (fAc (fCall 2 (callN (n + 2) 10) (fAc (fVar 0) (fAc (fL gLst (fAc (fC (.int 6)) (fAc (fC (.int 3)) (fAc (fC (.int 14)) (fAc (fC (.int 0)) (fAc (fC (.int 9)) fA0)))))) fA0))) fA0) r18a S = .ok ⟨rangeW 0 m, fun _ => True⟩ S1 := by
    have ea := ev_one f10
    unfold fRng
    rw [ea, R_ok]
    exact rng_at m (by omega)
  obtain ⟨acc, S2, e2, h2, h3, h4, h5, h6, h7⟩ := lc_draw (P := fun x => ∃ k : Nat, k ≤ 3 ∧ x = .int (k : Int)) (b := 0) (l := S1.length) (i := 2) (ρ := r18a) (el := fCall 2 (callN (n + 2) 9) (fAc (fVar 0) (fAc (fC (.int 4)) fA0))) (by omega)
    (fun w S N hb hN => by
      obtain ⟨v, S', e, hv, z, b', o⟩ := k_take (n + 1) (m := 4) hb (by omega) (by decide)
      exact ⟨.int v, S', ⟨v.toNat, by omega, by rw [Int.toNat_of_nonneg hv.1]⟩, fcall_at (ws := [.loc 0, iw 4]) (ev_ac (ev_var rfl) (ev_one rfl)) e z rfl, z, b', o⟩)
    (rangeW 0 m) [] (N + 1) (S1 ++ [.lst []]) (b1.push _) at0 (fun _ m => by cases m) (by rw [rangeW_len]; simp; omega) (by rw [rangeW_len]; omega)
  rw [rangeW_len] at h4 h6
  rw [List.length_append] at h5
  obtain ⟨sz, rfl, hs⟩ := nat_of h3
  have l4 : sz.length = m := by rw [ivs_len, nat_len] at h4; simpa using h4
  refine ⟨sz, S2.take S1.length, ?_, by omega, hs, by rw [List.length_take, h5]; simp; omega, (h6.take (by omega)).mono (by omega)⟩
  have lc : fLc (fRng rng1 (fAc (fCall 2 (callN (n + 2) 10) (fAc (fVar 0) (fAc (fL gLst (fAc (fC (.int 6)) (fAc (fC (.int 3)) (fAc (fC (.int 14)) (fAc (fC (.int 0)) (fAc (fC (.int 9)) fA0)))))) fA0))) fA0)) (gtName 2) fYes (fCall 2 (callN (n + 2) 9) (fAc (fVar 0) (fAc (fC (.int 4)) fA0))) [2] r18a S = .ok (li (nat sz)) (S2.take S.length) := by
    unfold fLc fLcL
    rw [it]
    show frz S.length (lcL _ _ _ _ r18a S1.length (rangeW 0 m) (S1 ++ [.lst []])) = _
    rw [e2]
    show (match frzW S.length S2 (.loc S1.length) with | some w' => R.ok w' (S2.take S.length) | none => R.bad) = _
    have fw : frzW S.length S2 (.loc S1.length) = some (li (nat sz)) := by
      unfold frzW
      rw [if_neg (by omega), h2]
    rw [fw]
  rw [z1]
  exact lc
theorem k_drawn (n : Nat) {S : Store} {N : Nat} (hb : BG S 0 N) (hN : N + 300 < 2 ^ 58) (h1 : S.length = 1) {fa : FA} {ρ : Rho} (ea : fa ρ S = .ok [.loc 0] S) :
    ∃ hs A rm hf S', fCall 1 (callN (n + 4) 18) fa ρ S = .ok (tu [.tuple (ivs hs), .int ((rm : Nat) : Int), .int ((hf : Nat) : Int), .list (ivs (nat A))]) S' ∧ Drawn hs A rm hf ∧ S'.length = 1 ∧ BG S' 0 (N + 200) := by
  obtain ⟨sz, S1, e1, hz, h3, l1, b1⟩ := sizes_drawn (n + 1) hb (by omega) h1
  obtain ⟨v, S2, e2, hv, z2, b2, o2⟩ := k_take (n + 2) (m := 2) b1 (by omega) (by decide)
  obtain ⟨x, S3, mx, e3, z3, b3, o3⟩ := k_some (n + 1) (ds := ext3) b2 (by omega) (by decide)
  obtain ⟨ex, rfl, hx⟩ := ext3_at mx
  have s3 := sum_le3 h3
  obtain ⟨hf, rfl⟩ : ∃ hf : Nat, v = (hf : Int) := ⟨v.toNat, by omega⟩
  have hrm : ∃ rm : Nat, rm = sz.sum + sz.length + ex := ⟨_, rfl⟩
  obtain ⟨rm, erm⟩ := hrm
  have rz : rm ≤ 100 := by omega
  have hp0 : hf * rm ≤ 100 := by
    have : hf = 0 ∨ hf = 1 := by omega
    rcases this with e | e <;> subst e <;> omega
  have hp1 : hf * rm ≤ rm := by
    have : hf = 0 ∨ hf = 1 := by omega
    rcases this with e | e <;> subst e <;> omega
  have l3 : S3.length = 1 := by omega
  have hA0 : ∀ a ∈ adrS (hf * rm) sz, a ≤ 10000 := fun a m => by have := adrS_le m; omega
  obtain ⟨ok1, hok1, hit1⟩ := it_pure (a := fVar 1) (ρ := r18 sz (hf : Int) (rm : Int) ((hf * rm : Nat) : Int) none none none none none none) (S := S3 ++ [.lst (ivs (Z (2 * rm))), .lst []]) (xs := ivs (nat sz)) (ev_var rfl) (.inl rfl)
  have at2 : (S3 ++ [.lst (ivs (Z (2 * rm))), .lst []])[2]? = some (.lst (ivs (nat []))) := by rw [show 2 = S3.length + 1 by omega]; exact at21
  obtain ⟨at', x8', e4⟩ := places_loop (sz := sz) (hf := (hf : Int)) (rm := (rm : Int)) hok1 sz [] (hf * rm) none (S3 ++ [.lst (ivs (Z (2 * rm))), .lst []]) at2 (by simp; omega)
  rw [List.nil_append] at e4
  have e5 : (S3 ++ [SO.lst (ivs (Z (2 * rm))), .lst []]).set 2 (.lst (ivs (nat (adrS (hf * rm) sz)))) = S3 ++ [.lst (ivs (Z (2 * rm))), .lst (ivs (nat (adrS (hf * rm) sz)))] := by rw [show 2 = S3.length + 1 by omega, set21]
  rw [e5] at e4
  have st0 : St18 (adrS (hf * rm) sz) (Z (hf * rm) ++ ([] : List (List Int)).flatten ++ Z (2 * rm - hf * rm)) (N + 15 + 1 + 1) (S3 ++ [.lst (ivs (Z (2 * rm))), .lst (ivs (nat (adrS (hf * rm) sz)))]) := by
    refine ⟨?_, ?_, by rw [show 2 = S3.length + 1 by omega]; exact at21, by simp; omega⟩
    · rw [← push2]
      exact (b3.push _).push _
    · have : Z (hf * rm) ++ ([] : List (List Int)).flatten ++ Z (2 * rm - hf * rm) = Z (2 * rm) := by
        rw [List.flatten_nil, List.append_nil, ← Z_add]
        congr 1
        omega
      rw [this]
      conv => lhs; rw [show 1 = S3.length by omega]
      exact at20
  have q2 : sz.sum + sz.length ≤ 2 * rm - hf * rm := by omega
  obtain ⟨bs, y8, y9, y10, y11, y12, y13, S4, e6, s4, g1, g2⟩ := blocks_loop (n + 0) (sz := sz) (A := adrS (hf * rm) sz) (hf := (hf : Int)) (rm := (rm : Int)) (at_ := at') (ok := fun S' => S'[2]? = some (.lst (ivs (nat (adrS (hf * rm) sz)))) ∧ True) (fun S' h => ⟨h, trivial⟩) (by rw [adrS_len]; omega) hA0 (p0 := hf * rm) sz [] (2 * rm - hf * rm) (N + 15 + 1 + 1) x8' none none none none none _ st0 q2 h3 (by omega) (by simp only [List.flatten_nil, List.length_nil]; omega) (fun h => by rw [adrS_len]; exact List.length_pos_iff.mpr h)
  rw [List.nil_append] at s4
  have ea4 := adrS_eq (p := hf * rm) g2
  have lz : (Z (hf * rm)).length = hf * rm := Z_len _
  have fle : bs.flatten.length = sz.sum + sz.length := by
    rw [List.length_flatten, g2]
    clear g2 g1 s4 e6 ea4 e4 st0 hA0 at2 hit1 e5 e1 q2 s3 h3 hz erm
    induction sz with
    | nil => rfl
    | cons k r ih => rw [List.map_cons, List.sum_cons, ih, List.sum_cons, List.length_cons]; omega
  have g1' : ∀ b ∈ bs, Blk (adr (Z (hf * rm)).length bs) b := fun b m => by rw [lz, ← ea4]; exact g1 b m
  obtain ⟨wf, tt⟩ := wf_blocks (pre := Z (hf * rm)) (post := Z (2 * rm - hf * rm - (sz.sum + sz.length))) g1' (by omega)
  rw [lz, ← ea4] at wf tt
  refine ⟨Z (hf * rm) ++ bs.flatten ++ Z (2 * rm - hf * rm - (sz.sum + sz.length)), adrS (hf * rm) sz, rm, hf, S4.take 1, ?_, ⟨wf, by omega, by omega, by omega, blk_bd g1 (fun w m => List.eq_of_mem_replicate m) (fun w m => List.eq_of_mem_replicate m), hA0, by rw [adrS_len]; omega, by simp only [List.length_append, Z_len]; omega⟩, by have := s4.ln; rw [List.length_take]; omega, (s4.b.take (by decide)).mono (by omega)⟩
  generalize hgs : Z (hf * rm) ++ bs.flatten ++ Z (2 * rm - hf * rm - (sz.sum + sz.length)) = hs at s4
  have run : callN (n + 4) 18 [.loc 0] S = .ok (.tp [ti hs, iw (rm : Int), iw (hf : Int), .loc 2]) S4 := by
    show toR (b18 (callN (n + 3)) r18a S) = _
    unfold b18
    refine ret_ok ((ev_seq (ρ1 := r18a.set 1 (some (li (nat sz)))) (S1 := S1) (ev_asg e1)).trans ?_)
    refine (ev_seq (ρ1 := (r18a.set 1 (some (li (nat sz)))).set 3 (some (iw (hf : Int)))) (S1 := S2) (ev_asg (fcall_at (ws := [.loc 0, iw 2]) (ev_ac (ev_var rfl) (ev_one rfl)) e2 z2 rfl))).trans ?_
    have gs : gSum [li (nat sz)] S2 = some (iw ((sz.sum : Nat) : Int), S2) := by rw [g_sum, nat_sum]
    have gn : gLen [li (nat sz)] S2 = some (iw ((sz.length : Nat) : Int), S2) := by
      show some (iw ((ivs (nat sz)).length : Int), S2) = _
      rw [ivs_len, nat_len]
    have erm2 : ((sz.sum : Nat) : Int) + ((sz.length : Nat) : Int) + (ex : Int) = (rm : Int) := by omega
    refine (ev_seq (ρ1 := ((r18a.set 1 (some (li (nat sz)))).set 3 (some (iw (hf : Int)))).set 4 (some (iw (rm : Int)))) (S1 := S3) (ev_asg (ev_f2 (ev_f2 (ev_L (ev_one (ev_var rfl)) gs) (ev_L (ev_one (ev_var rfl)) gn) g_addI) (fcall_at (ws := [.loc 0, .d (.list ext3)]) (ev_ac (ev_var rfl) (ev_one rfl)) e3 z3 rfl) (by rw [g_addI, erm2])))).trans ?_
    have mz := mul_zL (S := S3) (k := 2 * (rm : Int)) (by omega)
    have e2r : (2 * (rm : Int)).toNat = 2 * rm := by omega
    rw [e2r] at mz
    have m3 : ∀ S', gMulA (iw (hf : Int)) (iw (rm : Int)) S' = some (iw ((hf * rm : Nat) : Int), S') := fun S' => by
      rw [g_mul (by omega) (by omega), Int.natCast_mul]
    refine (ev_seq (ρ1 := r18 sz (hf : Int) (rm : Int) ((hf * rm : Nat) : Int) none none none none none none) (S1 := S3 ++ [.lst (ivs (Z (2 * rm))), .lst []]) ?_).trans ?_
    · unfold fPar3
      have gl : fL gLive fA0 (((r18a.set 1 (some (li (nat sz)))).set 3 (some (iw (hf : Int)))).set 4 (some (iw (rm : Int)))) (S3 ++ [.lst (ivs (Z (2 * rm)))]) = .ok (.loc 2) (S3 ++ [.lst (ivs (Z (2 * rm))), .lst []]) := by
        show R.ok (W.loc (S3 ++ [SO.lst (ivs (Z (2 * rm)))]).length) ((S3 ++ [.lst (ivs (Z (2 * rm)))]) ++ [.lst []]) = _
        rw [List.length_append, push2, l3]
        rfl
      have hh : f2 gMulL (fL gLst (fAc (fC (.int 0)) fA0)) (f2 gMulA (fC (.int 2)) (fVar 4)) (((r18a.set 1 (some (li (nat sz)))).set 3 (some (iw (hf : Int)))).set 4 (some (iw (rm : Int)))) S3 = .ok (.loc 1) (S3 ++ [.lst (ivs (Z (2 * rm)))]) := by
        rw [l3] at mz
        exact ev_f2 (ev_L (ws := [iw 0]) rfl rfl) (ev_f2 rfl (ev_var rfl) (g_mul (by decide) (by omega))) mz
      rw [ev_ac hh (ev_ac gl (ev_one (ev_f2 (ev_var rfl) (ev_var rfl) (m3 _))))]
      rfl
    refine (ev_seq (ρ1 := r18 sz (hf : Int) (rm : Int) at' x8' none none none none none) (S1 := S3 ++ [.lst (ivs (Z (2 * rm))), .lst (ivs (nat (adrS (hf * rm) sz)))]) ?_).trans ?_
    · unfold fFor
      rw [hit1]
      exact e4
    refine (ev_seq (ρ1 := r18 sz (hf : Int) (rm : Int) at' y8 y9 y10 y11 y12 y13) (S1 := S4) ?_).trans ?_
    · unfold fFor
      have zk : fRng zipK (fAc (fVar 6) (fAc (fVar 1) fA0)) (r18 sz (hf : Int) (rm : Int) at' x8' none none none none none) (S3 ++ [.lst (ivs (Z (2 * rm))), .lst (ivs (nat (adrS (hf * rm) sz)))]) = .ok ⟨List.zipWith pairW ((ivs (nat (adrS (hf * rm) sz))).map W.d) ((ivs (nat sz)).map W.d), fun S' => S'[2]? = some (.lst (ivs (nat (adrS (hf * rm) sz)))) ∧ True⟩ (S3 ++ [.lst (ivs (Z (2 * rm))), .lst (ivs (nat (adrS (hf * rm) sz)))]) := by
        have ea : fAc (fVar 6) (fAc (fVar 1) fA0) (r18 sz (hf : Int) (rm : Int) at' x8' none none none none none) (S3 ++ [.lst (ivs (Z (2 * rm))), .lst (ivs (nat (adrS (hf * rm) sz)))]) = .ok [.loc 2, li (nat sz)] (S3 ++ [.lst (ivs (Z (2 * rm))), .lst (ivs (nat (adrS (hf * rm) sz)))]) := ev_ac (ev_var rfl) (ev_one (ev_var rfl))
        have h2 := st0.h2
        unfold fRng
        rw [ea, R_ok]
        unfold zipK
        have k1 : wkS (.loc 2) (S3 ++ [.lst (ivs (Z (2 * rm))), .lst (ivs (nat (adrS (hf * rm) sz)))]) = some ⟨(ivs (nat (adrS (hf * rm) sz))).map W.d, fun S' => S'[2]? = some (.lst (ivs (nat (adrS (hf * rm) sz))))⟩ := by
          unfold wkS wkL
          simp only [h2]
        have k2 : wkS (li (nat sz)) (S3 ++ [.lst (ivs (Z (2 * rm))), .lst (ivs (nat (adrS (hf * rm) sz)))]) = some ⟨(ivs (nat sz)).map W.d, fun _ => True⟩ := rfl
        simp only [k1, k2]
      rw [zk]
      exact e6
    have tp : gTupleA [.loc 1] S4 = some (ti hs, S4) := by
      have h1 := s4.h1
      unfold gTupleA gTuple
      simp only [asSeq, h1]
    exact ev_ret (ev_L (ws := [ti hs, iw (rm : Int), iw (hf : Int), .loc 2]) (ev_ac (ev_L (ev_one (ev_var rfl)) tp) (ev_ac (ev_var rfl) (ev_ac (ev_var rfl) (ev_one (ev_var rfl))))) rfl)
  unfold fCall
  rw [ea, R_ok, if_pos (by rfl), run, h1]
  have fz : frzW 1 S4 (.tp [ti hs, iw (rm : Int), iw (hf : Int), .loc 2]) = some (tu [.tuple (ivs hs), .int (rm : Int), .int (hf : Int), .list (ivs (nat (adrS (hf * rm) sz)))]) := by
    have l2 : frzW 1 S4 (.loc 2) = some (li (nat (adrS (hf * rm) sz))) := by
      have h2 := s4.h2
      unfold frzW
      rw [if_neg (by decide)]
      simp only [h2]
    have ew : frzWs 1 S4 [ti hs, iw (rm : Int), iw (hf : Int), .loc 2] = some [ti hs, iw (rm : Int), iw (hf : Int), li (nat (adrS (hf * rm) sz))] := by
      simp only [frzWs, l2]
      rfl
    show (frzWs 1 S4 [ti hs, iw (rm : Int), iw (hf : Int), .loc 2]).map mkT = _
    rw [ew]
    rfl
  unfold frz
  simp only [fz]
end Q9
end VI
set_option Elab.async false
set_option linter.all false
set_option maxRecDepth 100000
namespace VI
open PySem PySem.Spec PyProof.Rows L2
namespace Q9
open C9

/-! a chain -/
def ch (m d i : Nat) : List Int := [hdr 3 (i : Int) 1, if i + 1 < m then (d : Int) + 4 * ((i : Int) + 1) else 11]
def chn (m d k : Nat) : List Int := (List.range k).flatMap (ch m d)
theorem chn_succ {m d k : Nat} : chn m d (k + 1) = chn m d k ++ ch m d k := by
  unfold chn
  rw [List.range_succ, List.flatMap_append]
  simp
theorem chn_len {m d : Nat} : ∀ k : Nat, (chn m d k).length = 2 * k
  | 0 => rfl
  | k + 1 => by rw [chn_succ, List.length_append, chn_len k]; rfl
def evn (k : Nat) : List Nat := (List.range k).map (2 * ·)
theorem evn_succ {k : Nat} : evn (k + 1) = evn k ++ [2 * k] := by
  unfold evn
  rw [List.range_succ, List.map_append]
  rfl
theorem evn_len {k : Nat} : (evn k).length = k := by unfold evn; simp
theorem evn_mem {k a : Nat} : a ∈ evn k ↔ ∃ i, i < k ∧ a = 2 * i := by
  unfold evn
  rw [List.mem_map]
  constructor
  · rintro ⟨i, m, rfl⟩
    exact ⟨i, List.mem_range.mp m, rfl⟩
  · rintro ⟨i, m, rfl⟩
    exact ⟨i, List.mem_range.mpr m, rfl⟩
theorem evn_get {k i : Nat} (h : i < k) : (evn k)[i]? = some (2 * i) := by
  unfold evn
  rw [List.getElem?_map, List.getElem?_range h]
  rfl
theorem adr_two : ∀ {bs : List (List Int)} {p : Nat}, (∀ b ∈ bs, b.length = 2) → adr p bs = (List.range bs.length).map (p + 2 * ·)
  | [], _, _ => rfl
  | b :: bs, p, h => by
    show p :: adr (p + b.length) bs = _
    rw [adr_two fun c m => h c (List.mem_cons_of_mem _ m), h b (by simp), List.length_cons, List.range_succ_eq_map, List.map_cons, List.map_map]
    congr 1
    refine List.map_congr_left fun i _ => ?_
    show p + 2 + 2 * i = p + 2 * (i + 1)
    omega
section
variable {m : Nat}
def chb (m : Nat) : List (List Int) := (List.range m).map (ch m 0)
def chh (m : Nat) : List Int := chn m 0 m ++ Z (2 * m)
theorem chb_flat : (chb m).flatten = chn m 0 m := by
  unfold chb chn
  rw [List.flatMap_def]
theorem chb_adr : adr 0 (chb m) = evn m := by
  rw [adr_two]
  · unfold chb evn
    rw [List.length_map, List.length_range]
    refine List.map_congr_left fun i _ => ?_
    omega
  · intro b mb
    obtain ⟨i, _, rfl⟩ := List.mem_map.mp mb
    rfl
theorem chb_blk (hm : m ≤ 700) : ∀ b ∈ chb m, Blk (evn m) b := by
  intro b mb
  obtain ⟨i, mi, rfl⟩ := List.mem_map.mp mb
  have hi := List.mem_range.mp mi
  refine ⟨3, (i : Int), [if i + 1 < m then ((0 : Nat) : Int) + 4 * ((i : Int) + 1) else 11], rfl, by decide, by omega, (show 1 < 256 by decide), fun w mw => ?_⟩
  rw [List.mem_singleton] at mw
  by_cases q : i + 1 < m
  · rw [if_pos q] at mw
    exact ⟨.inr ⟨2 * (i + 1), evn_mem.mpr ⟨i + 1, q, rfl⟩, by omega⟩, by omega⟩
  · rw [if_neg q] at mw
    rw [mw]
    exact ⟨.inl rfl, by decide⟩
theorem ch_wf (hm : m ≤ 700) : WF (chh m) (evn m) ∧ tot (F (chh m)) (evn m) = 2 * m := by
  have w := wf_blocks (pre := []) (post := Z (2 * m)) (bs := chb m) (by
    rw [show ([] : List Int).length = 0 from rfl, chb_adr]
    exact chb_blk hm) (by rw [chb_flat, chn_len]; omega)
  rw [show ([] : List Int).length = 0 from rfl, chb_adr, List.nil_append, chb_flat, chn_len] at w
  exact w
theorem ch_drop {i : Nat} (hi : i < m) : ∃ r, (chh m).drop (2 * i) = ch m 0 i ++ r := by
  refine ⟨((List.range m).drop (i + 1)).flatMap (ch m 0) ++ Z (2 * m), ?_⟩
  have e : List.range m = List.range i ++ i :: (List.range m).drop (i + 1) := by
    have d : (List.range m).drop i = i :: (List.range m).drop (i + 1) := by
      rw [List.drop_eq_getElem_cons (by rw [List.length_range]; exact hi), List.getElem_range]
    rw [← d]
    have t : List.range i = (List.range m).take i := by rw [List.take_range, Nat.min_eq_left (by omega)]
    rw [t, List.take_append_drop]
  have l : (chn m 0 i).length = 2 * i := chn_len i
  have e2 : chn m 0 m = chn m 0 i ++ (ch m 0 i ++ ((List.range m).drop (i + 1)).flatMap (ch m 0)) := by
    conv => lhs; unfold chn; rw [e]
    rw [List.flatMap_append, List.flatMap_cons]
    rfl
  unfold chh
  rw [e2, ← l, List.append_assoc, List.drop_left, List.append_assoc]
theorem ch_F {i : Nat} (hi : i < m) (hm : m ≤ 700) : F (chh m) (2 * i) = [if i + 1 < m then 4 * ((i : Int) + 1) else 11] ∧ (chh m).getD (2 * i) 0 = hdr 3 (i : Int) 1 := by
  obtain ⟨r, e⟩ := ch_drop hi
  have q := blk_at (chb_blk hm (ch m 0 i) (List.mem_map.mpr ⟨i, List.mem_range.mpr hi, rfl⟩)) e
  refine ⟨?_, getD_drop (by rw [e]; rfl)⟩
  rw [q.2.1]
  unfold ch
  show [_] = _
  rw [show ((0 : Nat) : Int) = 0 from rfl, Int.zero_add]
theorem ch_tot (hm : m ≤ 700) : ∀ {k : Nat}, k ≤ m → tot (F (chh m)) (evn k) = 2 * k
  | 0, _ => rfl
  | k + 1, h => by
    rw [evn_succ, tot_append, ch_tot hm (by omega), tot_one, (ch_F (by omega) hm).1]
    show 2 * k + (1 + 1) = _
    omega
theorem ch_scan (hm : m ≤ 700) : ∀ (n i : Nat), i < m → m < n + i → C9.scan (F (chh m)) n i (evn (i + 1)) = evn m
  | 0, i, hi, hn => absurd hn (by omega)
  | n + 1, i, hi, hn => by
    unfold C9.scan
    rw [evn_get (by omega)]
    show C9.scan (F (chh m)) n (i + 1) ((F (chh m) (2 * i)).foldl put (evn (i + 1))) = _
    rw [(ch_F hi hm).1]
    by_cases q : i + 1 < m
    · rw [if_pos q]
      have e : [4 * ((i : Int) + 1)].foldl put (evn (i + 1)) = evn (i + 2) := by
        show put (evn (i + 1)) (4 * ((i : Int) + 1)) = _
        have e1 : 4 * ((i : Int) + 1) = 2 * ((2 * (i + 1) : Nat) : Int) := by omega
        have nn : 2 * (i + 1) ∉ evn (i + 1) := fun mm => by
          obtain ⟨j, hj, ej⟩ := evn_mem.mp mm
          omega
        rw [e1, put_new nn, ← evn_succ]
      rw [e]
      exact ch_scan hm n (i + 1) q (by omega)
    · rw [if_neg q]
      have e : [(11 : Int)].foldl put (evn (i + 1)) = evn m := by
        show put (evn (i + 1)) 11 = _
        rw [put_odd (by decide), show i + 1 = m by omega]
      rw [e]
      cases n with
      | zero => exact absurd hn (by omega)
      | succ n =>
        unfold C9.scan
        rw [List.getElem?_eq_none (by rw [evn_len]; omega)]
theorem ch_ord (h0 : 0 < m) (hm : m ≤ 700) : ord (F (chh m)) [0] = evn m := by
  unfold ord
  have e : [(0 : Int)].foldl put [] = evn 1 := rfl
  rw [e]
  exact ch_scan hm 1000000 0 h0 (by omega)
theorem ch_ok (h0 : 0 < m) (hm : m ≤ 700) : Ok (chh m) (evn m) [0] (evn m) (2 * m) where
  W := (ch_wf hm).1
  hw := fun w mw => by
    rw [List.mem_singleton.mp mw]
    exact .inr ⟨0, evn_mem.mpr ⟨0, h0, rfl⟩, rfl⟩
  lw := by decide
  o_eq := (ch_ord h0 hm).symm
  cap := by rw [(ch_wf hm).2]; exact Nat.le_refl _
  rz := by omega
theorem ch_pos (hm : m ≤ 700) {base j : Nat} (hj : j < m) : pos (F (chh m)) base (evn m) (2 * j) = base + 2 * j := by
  have e : evn m = evn j ++ 2 * j :: ((List.range m).drop (j + 1)).map (2 * ·) := by
    have d : (List.range m).drop j = j :: (List.range m).drop (j + 1) := by
      rw [List.drop_eq_getElem_cons (by rw [List.length_range]; exact hj), List.getElem_range]
    have t : List.range j = (List.range m).take j := by rw [List.take_range, Nat.min_eq_left (by omega)]
    unfold evn
    rw [t, show 2 * j :: ((List.range m).drop (j + 1)).map (2 * ·) = ((List.range m).drop j).map (2 * ·) by rw [d]; rfl, ← List.map_append, List.take_append_drop]
  rw [e, pos_mid (fun mm => by obtain ⟨i, hi, ei⟩ := evn_mem.mp mm; omega), ch_tot hm (by omega)]
theorem ch_flat (hm : m ≤ 700) : ∀ {k : Nat}, k ≤ m → flat (chh m) (2 * m) (evn m) (evn k) = chn m (4 * m) k
  | 0, _ => rfl
  | k + 1, h => by
    rw [evn_succ, flat_app, ch_flat hm (by omega), chn_succ, flat_cons, show flat (chh m) (2 * m) (evn m) [] = [] from rfl, List.append_nil]
    congr 1
    unfold rblk ch
    rw [(ch_F (by omega) hm).1, (ch_F (by omega) hm).2, List.map_cons, List.map_nil]
    congr 2
    by_cases q : k + 1 < m
    · rw [if_pos q, if_pos q]
      have e1 : 4 * ((k : Int) + 1) = 2 * ((2 * (k + 1) : Nat) : Int) := by omega
      rw [e1, rel_even, ch_pos hm q]
      omega
    · rw [if_neg q, if_neg q, rel_odd (by decide)]
theorem ch_lay (hm : m ≤ 700) : lay (chh m) (2 * m) (evn m) (2 * (2 * m)) = Z (2 * m) ++ chn m (4 * m) m := by
  unfold lay
  rw [ch_flat hm (Nat.le_refl m), (ch_wf hm).2, show 2 * (2 * m) - 2 * m - 2 * m = 0 by omega, show Z 0 = [] from rfl, List.append_nil]
theorem srt_evn (m : Nat) : srt (evn m) = nat (evn m) := by
  refine (srtI_eq (List.Perm.refl (nat (evn m))) ?_).symm
  unfold evn nat
  rw [List.map_map, List.pairwise_map]
  refine List.Pairwise.imp ?_ List.pairwise_lt_range
  intro a b h
  show ((2 * a : Nat) : Int) ≤ ((2 * b : Nat) : Int)
  omega
end
end Q9
end VI
set_option Elab.async false
set_option linter.all false
set_option maxRecDepth 100000
namespace VI
open PySem PySem.Spec PyProof.Rows L2
namespace Q9
open C9

theorem no_alike (n : Nat) {fa fb : FE} {ρ : Rho} {S S1 S2 : Store} {d : PyData} (ea : fa ρ S = .ok (.d d) S1) (eb : fb ρ S1 = .ok (.d d) S2) (h : Fine d) : fNotT (fTru (fCall 2 (callN (n + 1) 11) (fAc fa (fAc fb fA0)))) ρ S = .ok false S2 := by
  have f9 : fCall 2 (callN (n + 1) 11) (fAc fa (fAc fb fA0)) ρ S = .ok (bt true) S2 := fcall_at (ws := [.d d, .d d]) (ev_ac ea (ev_one eb)) (k_alike n (by rw [asD]) (by rw [asD]) h) rfl rfl
  unfold fNotT fTru
  rw [f9]
  rfl
theorem ivs_sm {xs : List Int} (h : ∀ w ∈ xs, w.natAbs < 999999999999) : Sms 0 xs.length (ivs xs) := by
  have := Sms.all (k := 0) (b := 0) (ds := ivs xs) fun d m => by
    obtain ⟨i, mi, rfl⟩ := List.mem_map.mp m
    exact Sm.int (h i mi)
  rw [ivs_len] at this
  exact this.mono (Nat.le_refl _) (by omega)
theorem tup_sm {xs : List Int} (h : ∀ w ∈ xs, w.natAbs < 999999999999) {k b : Nat} (hb : xs.length ≤ b) : Sm (k + 1) b (.tuple (ivs xs)) := (Sm.tuple (ivs_sm h)).mono (by omega) hb
theorem srt_bd {o : List Nat} (h : ∀ a ∈ o, a ≤ 100000) : ∀ w ∈ srt o, w.natAbs < 999999999999 := fun w m => by
  obtain ⟨a, ma, rfl⟩ := srt_mem m
  have := h a ma
  omega
/-- what is told of reached ones -/
theorem told_fine {xs : List Int} {t : Int} (h : ∀ w ∈ xs, w.natAbs < 999999999999) (hx : xs.length ≤ 100000) (ht : t.natAbs < 999999999999) : Fine (.list [.tuple (ivs xs), .int t]) :=
  (Sm.list (Sms.cons (tup_sm (k := 0) h hx) (Sms.one (Sm.int (b := 0) ht)))).fine (by decide) (by decide)
theorem out_fine {xs ys : List Int} {t : Int} (h : ∀ w ∈ xs, w.natAbs < 999999999999) (hx : xs.length ≤ 100000) (ht : t.natAbs < 999999999999) (h2 : ∀ w ∈ ys, w.natAbs < 999999999999) (hy : ys.length ≤ 100000) : Fine (.tuple [.tuple (ivs xs), .int t, .tuple (ivs ys)]) :=
  (Sm.tuple (Sms.cons (tup_sm (k := 0) h hx) (Sms.cons (Sm.int (b := 0) ht) (Sms.one (tup_sm (k := 0) h2 hy))))).fine (by decide) (by decide)
section
variable {S : Store} {m : Nat}
theorem tup_rng (h : m = 700 ∨ m = 300) : gTupRng [iw 0, iw (2 * (m : Int)), iw 2] S = some (ti (nat (evn m)), S) := by
  have e : ∀ k : Nat, ((List.range k).map fun (j : Nat) => PyData.int (0 + (j : Int) * 2)) = ivs (nat (evn k)) := fun k => by
    unfold ivs nat evn
    rw [List.map_map, List.map_map]
    refine List.map_congr_left fun i _ => ?_
    show PyData.int _ = PyData.int ((2 * i : Nat) : Int)
    congr 1
    omega
  rcases h with rfl | rfl
  · unfold gTupRng
    simp only
    rw [if_pos (by decide)]
    have : (Builtin.Range.rangeSize 0 (2 * ((700 : Nat) : Int)) 2).toNat = 700 := by decide
    rw [this, e]
  · unfold gTupRng
    simp only
    rw [if_pos (by decide)]
    have : (Builtin.Range.rangeSize 0 (2 * ((300 : Nat) : Int)) 2).toNat = 300 := by decide
    rw [this, e]
noncomputable abbrev lb20 (call : Calls) : FS := (fSeq (fDrop (fMeth mExtendA (fVar 2) (fAc (fL gLst (fAc (fCall 3 (call 12) (fAc (fC (.int 3)) (fAc (fVar 4) (fAc (fC (.int 1)) fA0)))) (fAc (fIfE (fTest (f2 gLt (f2 gAdd (fVar 4) (fC (.int 1))) (fVar 0))) (f2 gMulA (fC (.int 4)) (f2 gAdd (fVar 4) (fC (.int 1)))) (fC (.int 11))) fA0))) fA0))) (fDrop (fMeth mExtendA (fVar 3) (fAc (fL gLst (fAc (fCall 3 (call 12) (fAc (fC (.int 3)) (fAc (fVar 4) (fAc (fC (.int 1)) fA0)))) (fAc (fIfE (fTest (f2 gLt (f2 gAdd (fVar 4) (fC (.int 1))) (fVar 0))) (f2 gAdd (f2 gMulA (fC (.int 2)) (fVar 1)) (f2 gMulA (fC (.int 4)) (f2 gAdd (fVar 4) (fC (.int 1))))) (fC (.int 11))) fA0))) fA0))))
abbrev r20 (S : Store) (m : Nat) (x4 : Option W) : Rho := [some (iw (m : Int)), some (iw (2 * (m : Int))), some (.loc S.length), some (.loc (S.length + 1)), x4]
theorem ch_step (n : Nat) {k : Nat} (hk : k < m) (hm : m ≤ 700) {x4 : Option W} (e4 : x4 = some (iw (k : Int))) : lb20 (callN (n + 1)) (r20 S m x4) (S ++ [.lst (ivs (chn m 0 k)), .lst (ivs (chn m (4 * m) k))]) = .next (r20 S m x4) (S ++ [.lst (ivs (chn m 0 (k + 1))), .lst (ivs (chn m (4 * m) (k + 1)))]) := by
  subst e4
  have hd : ∀ S', callN (n + 1) 12 [iw 3, iw (k : Int), iw 1] S' = .ok (iw (hdr 3 (k : Int) 1)) S' := fun S' => k_header n (by decide) (by omega) (by decide)
  have f12 : ∀ S', fCall 3 (callN (n + 1) 12) (fAc (fC (.int 3)) (fAc (fVar 4) (fAc (fC (.int 1)) fA0))) (r20 S m (some (iw (k : Int)))) S' = .ok (iw (hdr 3 (k : Int) 1)) S' := fun S' => fcall_at (ws := [iw 3, iw (k : Int), iw 1]) (ev_ac (S1 := S') rfl (ev_ac (ev_var rfl) (ev_one rfl))) (hd S') rfl rfl
  have tst : ∀ S', fTest (f2 gLt (f2 gAdd (fVar 4) (fC (.int 1))) (fVar 0)) (r20 S m (some (iw (k : Int)))) S' = .ok (decide ((k : Int) + 1 < (m : Int))) S' := fun S' => ev_test (ev_f2 (ev_f2 (ev_var rfl) rfl rfl) (ev_var rfl) rfl)
  have w1 : ∀ S', fIfE (fTest (f2 gLt (f2 gAdd (fVar 4) (fC (.int 1))) (fVar 0))) (f2 gMulA (fC (.int 4)) (f2 gAdd (fVar 4) (fC (.int 1)))) (fC (.int 11)) (r20 S m (some (iw (k : Int)))) S' = .ok (iw (if k + 1 < m then ((0 : Nat) : Int) + 4 * ((k : Int) + 1) else 11)) S' := fun S' => by
    have t := tst S'
    by_cases q : k + 1 < m
    · rw [decide_eq_true (by omega)] at t
      rw [if_pos q, show ((0 : Nat) : Int) = 0 from rfl, Int.zero_add]
      exact (ev_ify t).trans (ev_f2 rfl (ev_f2 (ev_var rfl) rfl rfl) (g_mul (by decide) (by omega)))
    · rw [decide_eq_false (by omega)] at t
      rw [if_neg q]
      exact (ev_ifn t).trans rfl
  have w2 : ∀ S', fIfE (fTest (f2 gLt (f2 gAdd (fVar 4) (fC (.int 1))) (fVar 0))) (f2 gAdd (f2 gMulA (fC (.int 2)) (fVar 1)) (f2 gMulA (fC (.int 4)) (f2 gAdd (fVar 4) (fC (.int 1))))) (fC (.int 11)) (r20 S m (some (iw (k : Int)))) S' = .ok (iw (if k + 1 < m then ((4 * m : Nat) : Int) + 4 * ((k : Int) + 1) else 11)) S' := fun S' => by
    have t := tst S'
    by_cases q : k + 1 < m
    · rw [decide_eq_true (by omega)] at t
      rw [if_pos q, show ((4 * m : Nat) : Int) = 2 * (2 * (m : Int)) by omega]
      exact (ev_ify t).trans (ev_f2 (ev_f2 rfl (ev_var rfl) (g_mul (by decide) (by omega))) (ev_f2 rfl (ev_f2 (ev_var rfl) rfl rfl) (g_mul (by decide) (by omega))) g_addI)
    · rw [decide_eq_false (by omega)] at t
      rw [if_neg q]
      exact (ev_ifn t).trans rfl
  refine (ev_seq (ρ1 := r20 S m (some (iw (k : Int)))) (S1 := S ++ [.lst (ivs (chn m 0 (k + 1))), .lst (ivs (chn m (4 * m) k))]) (ev_drop (x := .d .none) (ev_meth (ev_var rfl) (live_l at20) (ev_one (ev_L (ws := [iw (hdr 3 (k : Int) 1), iw (if k + 1 < m then ((0 : Nat) : Int) + 4 * ((k : Int) + 1) else 11)]) (ev_ac (f12 _) (ev_one (w1 _))) rfl)) ?_))).trans (ev_drop (x := .d .none) (ev_meth (ev_var rfl) (live_l at21) (ev_one (ev_L (ws := [iw (hdr 3 (k : Int) 1), iw (if k + 1 < m then ((4 * m : Nat) : Int) + 4 * ((k : Int) + 1) else 11)]) (ev_ac (f12 _) (ev_one (w2 _))) rfl)) ?_))
  · rw [m_ext at20 (by rw [ivs_len, chn_len]; show 2 * k + 2 ≤ _; omega), set20, chn_succ, ivs_app]
    rfl
  · rw [m_ext at21 (by rw [ivs_len, chn_len]; show 2 * k + 2 ≤ _; omega), set21, chn_succ (d := 4 * m), ivs_app (chn m (4 * m) k)]
    rfl
theorem ch_bd (d : Nat) (hd : d ≤ 100000) (hm : m ≤ 700) : ∀ w ∈ chn m d m, w.natAbs < 99999999999 := by
  intro w mw
  obtain ⟨i, mi, mw⟩ := List.mem_flatMap.mp mw
  have hi := List.mem_range.mp mi
  unfold ch at mw
  rcases List.mem_cons.mp mw with e | mw
  · rw [e]
    unfold hdr
    omega
  · rw [List.mem_singleton.mp mw]
    split <;> omega
theorem ch_loop (n : Nat) (hm : m ≤ 700) : ∀ (r k : Nat) (x4 : Option W), k + r = m → ∃ x4', forL (fun _ => True) (gtName 4) (lb20 (callN (n + 1))) (rangeW (k : Int) r) (r20 S m x4) (S ++ [.lst (ivs (chn m 0 k)), .lst (ivs (chn m (4 * m) k))]) = .next (r20 S m x4') (S ++ [.lst (ivs (chn m 0 m)), .lst (ivs (chn m (4 * m) m))])
  | 0, k, x4, h => by
    refine ⟨x4, ?_⟩
    show forL _ _ _ [] _ _ = _
    rw [forL, if_pos trivial, show k = m by omega]
  | r + 1, k, x4, h => by
    obtain ⟨x4', ih⟩ := ch_loop n hm r (k + 1) (some (iw (k : Int))) (by omega)
    refine ⟨x4', ?_⟩
    rw [rangeW_cons, forL, if_pos trivial]
    show (match lb20 (callN (n + 1)) (r20 S m (some (iw (k : Int)))) (S ++ [.lst (ivs (chn m 0 k)), .lst (ivs (chn m (4 * m) k))]) with
      | .next ρ2 S2 => forL (fun _ => True) (gtName 4) (lb20 (callN (n + 1))) (rangeW ((k : Int) + 1) r) ρ2 S2
      | .cnt ρ2 S2 => forL (fun _ => True) (gtName 4) (lb20 (callN (n + 1))) (rangeW ((k : Int) + 1) r) ρ2 S2
      | .brk ρ2 S2 => .next ρ2 S2
      | r => r) = _
    rw [ch_step n (by omega) hm rfl]
    exact ih
theorem k_chain (n : Nat) (hm : m = 700 ∨ m = 300) : ∃ ex, callN (n + 6) 20 [iw (m : Int)] S = .ok (bt true) (S ++ ex) := by
  have h7 : m ≤ 700 := by omega
  have h0 : 0 < m := by omega
  have K := ch_ok h0 h7
  have O := K.O
  obtain ⟨x4, lp⟩ := ch_loop (S := S) (n + 4) h7 m 0 none (by omega)
  have e0 : ∀ d, chn m d 0 = [] := fun _ => rfl
  rw [e0, e0] at lp
  refine ⟨[.lst (ivs (chn m 0 m)), .lst (ivs (chn m (4 * m) m))], ?_⟩
  show toR (b20 (callN (n + 5)) [some (iw (m : Int)), none, none, none, none] S) = _
  unfold b20
  have gv : fL gLive fA0 [some (iw (m : Int)), none, none, none, none] (S ++ [.lst []]) = .ok (.loc (S.length + 1)) (S ++ [.lst [], .lst []]) := by
    show R.ok (W.loc (S ++ [SO.lst []]).length) ((S ++ [.lst []]) ++ [.lst []]) = _
    rw [List.length_append, push2]
    rfl
  refine ret_ok ((ev_seq (ρ1 := r20 S m none) (S1 := S ++ [.lst [], .lst []]) ?_).trans ?_)
  · unfold fPar3
    rw [ev_ac (x := iw (2 * (m : Int))) (ws := [.loc S.length, .loc (S.length + 1)]) (S1 := S) (S2 := S ++ [.lst [], .lst []]) (ev_f2 rfl (ev_var rfl) (g_mul (by decide) (by omega))) (ev_ac (S1 := S ++ [.lst []]) (ev_L (ws := []) rfl rfl) (ev_one gv))]
    rfl
  refine (ev_seq (ρ1 := r20 S m x4) (S1 := S ++ [.lst (ivs (chn m 0 m)), .lst (ivs (chn m (4 * m) m))]) ?_).trans ?_
  · unfold fFor
    have rg : fRng rng1 (fAc (fVar 0) fA0) (r20 S m none) (S ++ [.lst [], .lst []]) = .ok ⟨rangeW ((0 : Nat) : Int) m, fun _ => True⟩ (S ++ [.lst [], .lst []]) := by
      have ea : fAc (fVar 0) fA0 (r20 S m none) (S ++ [.lst [], .lst []]) = .ok [iw (m : Int)] (S ++ [.lst [], .lst []]) := ev_one (ev_var rfl)
      unfold fRng
      rw [ea, R_ok]
      exact rng_at m (by omega)
    rw [rg]
    exact lp
  generalize hS : S ++ [.lst (ivs (chn m 0 m)), .lst (ivs (chn m (4 * m) m))] = S2
  have q1 : S2[S.length]? = some (.lst (ivs (chn m 0 m))) := by rw [← hS]; exact at20
  have q2 : S2[S.length + 1]? = some (.lst (ivs (chn m (4 * m) m))) := by rw [← hS]; exact at21
  have t1 : gTupleA [.loc S.length] S2 = some (ti (chn m 0 m), S2) := by
    unfold gTupleA gTuple
    simp only [asSeq, q1]
  have t2 : gTupleA [.loc (S.length + 1)] S2 = some (ti (chn m (4 * m) m), S2) := by
    unfold gTupleA gTuple
    simp only [asSeq, q2]
  have zz : gMulC (tu [.int 0]) (iw (2 * (m : Int))) S2 = some (ti (Z (2 * m)), S2) := by
    rw [mul_zT (by omega), show (2 * (m : Int)).toNat = 2 * m by omega]
  have ct : ∀ (xs ys : List Int), xs.length + ys.length ≤ 16777216 → gAddLL (ti xs) (ti ys) S2 = some (ti (xs ++ ys), S2) := fun xs ys h => by
    have e : gAddL (ti xs) (ti ys) S2 = none := rfl
    unfold gAddLL
    rw [e]
    show gAdd (ti xs) (ti ys) S2 = _
    rw [g_catT (by rw [ivs_len, ivs_len]; exact h), ← ivs_app]
  refine (ev_seq (ρ1 := [some (iw (m : Int)), some (iw (2 * (m : Int))), some (ti (chh m)), some (ti (Z (2 * m) ++ chn m (4 * m) m)), x4]) (S1 := S2) ?_).trans ?_
  · unfold fPar
    rw [ev_ac (x := ti (chh m)) (ws := [ti (Z (2 * m) ++ chn m (4 * m) m)]) (S1 := S2) (S2 := S2) (ev_f2 (ev_L (ev_one (ev_var rfl)) t1) (ev_f2 rfl (ev_var rfl) zz) (ct _ _ (by rw [chn_len, Z_len]; omega))) (ev_one (ev_f2 (ev_f2 rfl (ev_var rfl) zz) (ev_L (ev_one (ev_var rfl)) t2) (ct _ _ (by rw [chn_len, Z_len]; omega))))]
    rfl
  obtain ⟨ex3, e3⟩ := k_reached (n + 2) (S := S2) (q := false) K.W K.hw K.lw O
  have e4 := k_rwords (n + 1) (S := S2) (q := false) K.W K.hw K.lw O
  obtain ⟨ex7, e7⟩ := k_collected (S := S2) n (hf := 0) K (.inl ⟨rfl, rfl⟩)
  rw [srt_evn] at e3
  rw [(ch_wf h7).2] at e4
  have c2 : ((2 * m : Nat) : Int) = 2 * (m : Int) := by omega
  have evb : ∀ w ∈ nat (evn m), w.natAbs < 999999999999 := fun w mw => by
    obtain ⟨a, ma, rfl⟩ := List.mem_map.mp mw
    obtain ⟨i, hi, rfl⟩ := evn_mem.mp ma
    omega
  refine (ev_seq (ρ1 := [some (iw (m : Int)), some (iw (2 * (m : Int))), some (ti (chh m)), some (ti (Z (2 * m) ++ chn m (4 * m) m)), x4]) (S1 := S2) ((ev_no (no_alike (n + 4) (d := .list [.tuple (ivs (nat (evn m))), .int ((2 * m : Nat) : Int)]) (S1 := S2) ?_ ?_ (told_fine evb (by rw [nat_len, evn_len]; omega) (by omega)))).trans rfl)).trans ?_
  · refine ev_L (ws := [ti (nat (evn m)), iw ((2 * m : Nat) : Int)]) (ev_ac (S1 := S2) (ev_ext (ws := [ti (chh m), ti [0]]) (ev_ac (ev_var rfl) (ev_one rfl)) e3) (ev_one (fcall_at (ws := [ti (chh m), ti [0]]) (ev_ac (ev_var rfl) (ev_one rfl)) e4 rfl rfl))) rfl
  · rw [c2]
    exact ev_L (ws := [ti (nat (evn m)), iw (2 * (m : Int))]) (ev_ac (ev_L (ws := [iw 0, iw (2 * (m : Int)), iw 2]) (ev_ac (S1 := S2) rfl (ev_ac (ev_var rfl) (ev_one rfl))) (tup_rng hm)) (ev_one (ev_var rfl))) rfl
  have eo : outT (chh m) (2 * m) (2 * m) (evn m) [0] = [.tuple (ivs (Z (2 * m) ++ chn m (4 * m) m)), .int (2 * (2 * (m : Int))), .tuple (ivs [2 * (2 * (m : Int))])] := by
    unfold outT
    rw [ch_lay h7, (ch_wf h7).2]
    have e1 : ((2 * m + 2 * m : Nat) : Int) = 2 * (2 * (m : Int)) := by omega
    have e2 : [(0 : Int)].map (rel (F (chh m)) (2 * m) (evn m)) = [2 * (2 * (m : Int))] := by
      show [rel (F (chh m)) (2 * m) (evn m) (2 * ((2 * 0 : Nat) : Int))] = _
      rw [rel_even, ch_pos h7 h0]
      rw [Nat.mul_zero, Nat.add_zero, c2]
    rw [e1, e2]
  rw [eo] at e7
  have bd2 : ∀ w ∈ Z (2 * m) ++ chn m (4 * m) m, w.natAbs < 999999999999 := fun w mw => by
    rcases List.mem_append.mp mw with q | q
    · rw [List.eq_of_mem_replicate q]; decide
    · have := ch_bd (4 * m) (by omega) h7 w q
      omega
  have f7 : fCall 4 (callN (n + 5) 7) (fAc (fVar 2) (fAc (fVar 1) (fAc (fC (.int 0)) (fAc (fL gTup (fAc (fC (.int 0)) fA0)) fA0)))) [some (iw (m : Int)), some (iw (2 * (m : Int))), some (ti (chh m)), some (ti (Z (2 * m) ++ chn m (4 * m) m)), x4] S2 = .ok (tu [.tuple (ivs (Z (2 * m) ++ chn m (4 * m) m)), .int (2 * (2 * (m : Int))), .tuple (ivs [2 * (2 * (m : Int))])]) S2 := by
    refine ev_ext (ws := [ti (chh m), iw (2 * (m : Int)), iw 0, ti [0]]) (ev_ac (ev_var rfl) (ev_ac (ev_var rfl) (ev_ac (S1 := S2) rfl (ev_one rfl)))) (ex := ex7) ?_
    rw [c2] at e7
    exact e7
  have m4 : ∀ S', gMulA (iw 2) (iw (2 * (m : Int))) S' = some (iw (2 * (2 * (m : Int))), S') := fun S' => g_mul (by decide) (by omega)
  have fd : fL gTup (fAc (fVar 3) (fAc (f2 gMulA (fC (.int 2)) (fVar 1)) (fAc (fL gTup (fAc (f2 gMulA (fC (.int 2)) (fVar 1)) fA0)) fA0))) [some (iw (m : Int)), some (iw (2 * (m : Int))), some (ti (chh m)), some (ti (Z (2 * m) ++ chn m (4 * m) m)), x4] S2 = .ok (tu [.tuple (ivs (Z (2 * m) ++ chn m (4 * m) m)), .int (2 * (2 * (m : Int))), .tuple (ivs [2 * (2 * (m : Int))])]) S2 :=
    ev_L (ws := [ti (Z (2 * m) ++ chn m (4 * m) m), iw (2 * (2 * (m : Int))), ti [2 * (2 * (m : Int))]]) (ev_ac (ev_var rfl) (ev_ac (ev_f2 rfl (ev_var rfl) (m4 _)) (ev_one (ev_L (ws := [iw (2 * (2 * (m : Int)))]) (ev_one (ev_f2 rfl (ev_var rfl) (m4 _))) rfl)))) rfl
  have fn := out_fine (t := 2 * (2 * (m : Int))) bd2 (by rw [List.length_append, chn_len, Z_len]; omega) (by omega) (ys := [2 * (2 * (m : Int))]) (fun w mw => by rw [List.mem_singleton.mp mw]; omega) (show 1 ≤ 100000 by decide)
  exact ev_ret (fcall_at (ws := [_, _]) (ev_ac f7 (ev_one fd)) (k_alike (n + 4) (by rw [asD]) (by rw [asD]) fn) rfl rfl)
end
end Q9
end VI
set_option Elab.async false
set_option linter.all false
set_option maxRecDepth 100000
namespace VI
open PySem PySem.Spec PyProof.Rows L2
namespace Q9
open C9

theorem gNe_same {d : PyData} {S : Store} (h : SeqAt.shaped d = true) : gNe (.d d) (.d d) S = some (bt false, S) := by
  have eD : gNeD (.d d) (.d d) S = some (bt false, S) := by
    unfold gNeD
    simp only [asD]
    rw [if_pos ⟨h, h⟩, SeqAt.eqv_refl d (SeqAt.canLay_of_shaped h)]
    rfl
  unfold gNe
  cases e : gNeS (.d d) (.d d) S with
  | none => exact eD
  | some p =>
    unfold gNeS at e
    split at e
    · rename_i x y e1 e2
      cases e1
      cases e2
      rw [beq_self_eq_true] at e
      cases e
      rfl
    · cases e
/-- shapes are small -/
theorem shp_sm {hs : List Int} {A : List Nat} (W : WF hs A) (hB : ∀ w ∈ hs, w.natAbs < 99999999999) : ∀ (m : Nat) (met : List Nat) (line : List Int), met.Nodup → (∀ a ∈ met, a ∈ A) → (∀ w ∈ line, Wd A w ∧ w.natAbs < 999999999999) →
    (∀ d ∈ shp hs m met line, Sm 1 10 d) ∧ (shp hs m met line).length ≤ tot (F hs) (C9.rest A met) + line.length
  | 0, _, _, _, _, _ => ⟨(fun _ h => by cases h), Nat.zero_le _⟩
  | _ + 1, _, [], _, _, _ => ⟨(fun _ h => by cases h), Nat.zero_le _⟩
  | m + 1, met, w :: r, nd, sub, hl => by
    have hw := hl w (by simp)
    have hr : ∀ v ∈ r, Wd A v ∧ v.natAbs < 999999999999 := fun v mv => hl v (List.mem_cons_of_mem _ mv)
    unfold shp
    have con : ∀ {x : PyData} {xs : List PyData} {k : Nat}, Sm 1 10 x → (∀ d ∈ xs, Sm 1 10 d) → ∀ d ∈ x :: xs, Sm 1 10 d := fun hx h d md => by
      rcases List.mem_cons.mp md with e | q
      · rw [e]; exact hx
      · exact h d q
    rcases hw.1 with z | ⟨a, ma, rfl⟩
    · rw [if_pos z]
      have ih := shp_sm W hB m met r nd sub hr
      refine ⟨con (k := 0) (Sm.int hw.2) ih.1, ?_⟩
      rw [List.length_cons, List.length_cons]
      have := ih.2
      omega
    · have e1 : (2 * (a : Int) / 2).toNat = a := by omega
      rw [if_neg (by omega), e1]
      cases q : idx met a with
      | some k =>
        have ih := shp_sm W hB m met r nd sub hr
        have kl := idx_lt q
        have ml := sub_len nd sub
        have al := W.al
        refine ⟨con (k := 0) (Sm.mono (Sm.tuple (Sms.cons (k := 0) (b1 := 5) (b2 := 1) (⟨by decide, by decide, by decide⟩ : Sm 0 5 (.str "again")) (Sms.one (Sm.int (b := 0) (by omega))))) (by decide) (by decide)) ih.1, ?_⟩
        show (shp hs m met r).length + 1 ≤ _
        rw [List.length_cons]
        have := ih.2
        omega
      | none =>
        have hn := idx_none q
        have tr := tot_rest (F := F hs) hn W.nd ma
        have sub' : ∀ b ∈ met ++ [a], b ∈ A := fun b mb => by
          rcases List.mem_append.mp mb with q | q
          · exact sub b q
          · rw [List.mem_singleton.mp q]; exact ma
        have hl' : ∀ v ∈ r ++ F hs a, Wd A v ∧ v.natAbs < 999999999999 := fun v mv => by
          rcases List.mem_append.mp mv with q | q
          · exact hr v q
          · have : v ∈ hs := by
              unfold F at q
              exact List.mem_of_mem_drop (List.mem_of_mem_take q)
            have := hB v this
            exact ⟨W.wd a ma v q, by omega⟩
        have ih := shp_sm W hB m (met ++ [a]) (r ++ F hs a) (nd_snoc nd hn) sub' hl'
        have hh : (hs.getD a 0).natAbs < 99999999999 := by
          rw [List.getD_eq_getElem?_getD, List.getElem?_eq_getElem (W.lt ma)]
          exact hB _ (List.getElem_mem _)
        have fl : (F hs a).length ≤ 5000 := by
          have t1 := tot_sub (F := F hs) (o := [a]) (A := A) (by simp) (fun b m => by rw [List.mem_singleton.mp m]; exact ma)
          rw [tot_one] at t1
          have := W.sz
          omega
        refine ⟨con (k := 0) (Sm.mono (Sm.tuple (Sms.cons (k := 0) (b1 := 0) (Sm.int (by omega)) (Sms.cons (b1 := 0) (Sm.int (by omega)) (Sms.one (Sm.int (b := 0) (by omega)))))) (by decide) (by decide)) ih.1, ?_⟩
        show (shp hs m (met ++ [a]) (r ++ F hs a)).length + 1 ≤ _
        rw [List.length_cons]
        have := ih.2
        rw [List.length_append] at this
        omega
theorem shape_fine {hs ws : List Int} {A : List Nat} (W : WF hs A) (hB : ∀ w ∈ hs, w.natAbs < 99999999999) (hw : ∀ w ∈ ws, Wd A w ∧ w.natAbs < 999999999999) (hz : ws.length ≤ 1000) : Fine (.list (shape hs ws)) := by
  have h := shp_sm W hB 1000000 [] ws List.nodup_nil (fun _ m => by cases m) hw
  have rl := tot_rest_le (F := F hs) (found := []) (A := A)
  have wz := W.sz
  have s := Sms.all h.1
  refine (Sm.list s).fine (by decide) ?_
  show (shape hs ws).length * (10 + 1) ≤ 1000000
  have : (shape hs ws).length ≤ 6000 := Nat.le_trans h.2 (by omega)
  omega
theorem shape_told {hs ws : List Int} {A o : List Nat} {rm base : Nat} (K : Ok hs A ws o rm) : shape (lay hs base o (2 * rm)) (ws.map (rel (F hs) base o)) = shape hs ws :=
  shp_iso (base := base) K.O.nd K.wdo (fun a ma => lay_F K.W K.O.nd ma (K.O.sub a ma)) (fun a ma => lay_hd K.O.nd ma) 1000000 [] ws (fun _ m => by cases m) K.wdr
theorem rel_bd {hs ws : List Int} {A o : List Nat} {rm base : Nat} (K : Ok hs A ws o rm) (hb : base = rm ∨ base = 0) (h : ∀ w ∈ ws, w.natAbs < 999999999999) : ∀ w ∈ ws.map (rel (F hs) base o), w.natAbs < 999999999999 := by
  intro v mv
  have cap := K.cap
  have rz := K.rz
  obtain ⟨w, mw, rfl⟩ := List.mem_map.mp mv
  rcases K.wdr w mw with z | ⟨c, mc, rfl⟩
  · rw [rel_odd z]; exact h w mw
  · rw [rel_even]
    have := (pos_lt (F := F hs) (base := base) K.O.nd mc).2
    rcases hb with e | e <;> omega
/-! the checks of a round -/
section
variable {S : Store} {hs ws : List Int} {A o : List Nat} {rm hf : Nat}
abbrev r21 (hs : List Int) (rm hf : Nat) (A : List Nat) (ws : List Int) (sc b : W) (x2 x8 x9 x10 x11 x12 x13 x14 x15 : Option W) : Rho := [some sc, some b, x2, some (ti hs), some (iw (rm : Int)), some (iw (hf : Int)), some (li (nat A)), some (ti ws), x8, x9, x10, x11, x12, x13, x14, x15]
noncomputable abbrev chk21 (call : Calls) : FS := (fSeq (fPar 9 10 (fAc (fL gRepr (fAc (fL gLst (fAc (fVar 3) (fAc (fVar 7) fA0))) fA0)) (fAc (fCall 2 (call 14) (fAc (fVar 3) (fAc (fVar 7) fA0))) fA0))) (fSeq (fAsg (fL gSum (fAc (fLc (fItS (fVar 10)) (gtName 12) fYes (f2 gAdd (fC (.int 1)) (fL gLen (fAc (f2 gIx (fCall 2 (call 13) (fAc (fVar 3) (fAc (fVar 12) fA0))) (fC (.int 2))) fA0))) [12]) fA0)) (gtName 11)) (fSeq (fIf (fNotT (fTru (fCall 2 (call 11) (fAc (fL gLst (fAc (fCall 2 (call 3) (fAc (fVar 3) (fAc (fVar 7) fA0))) (fAc (fCall 2 (call 4) (fAc (fVar 3) (fAc (fVar 7) fA0))) fA0))) (fAc (fL gLst (fAc (fL gTupleA (fAc (fVar 10) fA0)) (fAc (fVar 11) fA0))) fA0))))) (fRet (fC (.bool false))) fNext) (fSeq (fAsg (fCall 4 (call 15) (fAc (fVar 3) (fAc (fVar 4) (fAc (fVar 5) (fAc (fL gList (fAc (fVar 7) fA0)) fA0))))) (gtName 13)) (fSeq (fAsg (fCall 4 (call 7) (fAc (fVar 3) (fAc (fVar 4) (fAc (fVar 5) (fAc (fVar 7) fA0))))) (gtName 14)) (fSeq (fIf (fNotT (fTru (fCall 2 (call 11) (fAc (fVar 14) (fAc (fL gTup (fAc (fL gTupleA (fAc (f2 gIx (fVar 13) (fC (.int 0))) fA0)) (fAc (f2 gIx (fVar 13) (fC (.int 1))) (fAc (fL gTupleA (fAc (f2 gIx (fVar 13) (fC (.int 2))) fA0)) fA0)))) fA0))))) (fRet (fC (.bool false))) fNext) (fSeq (fIf (fOrT (fTest (f2 gNe (fCall 2 (call 19) (fAc (f2 gIx (fVar 14) (fC (.int 0))) (fAc (f2 gIx (fVar 14) (fC (.int 2))) fA0))) (fCall 2 (call 19) (fAc (fVar 3) (fAc (fVar 7) fA0))))) (fTest (f2 gNe (f2 gIx (fVar 14) (fC (.int 1))) (f2 gAdd (f2 gMulA (f2 gSub (fC (.int 1)) (fVar 5)) (fVar 4)) (fVar 11))))) (fRet (fC (.bool false))) fNext) (fSeq (fIf (fNotT (fTru (fCall 2 (call 11) (fAc (fCall 2 (call 4) (fAc (f2 gIx (fVar 14) (fC (.int 0))) (fAc (f2 gIx (fVar 14) (fC (.int 2))) fA0))) (fAc (fVar 11) fA0))))) (fRet (fC (.bool false))) fNext) (fSeq (fAsg (fCall 4 (call 7) (fAc (f2 gIx (fVar 14) (fC (.int 0))) (fAc (fVar 4) (fAc (f2 gSub (fC (.int 1)) (fVar 5)) (fAc (f2 gIx (fVar 14) (fC (.int 2))) fA0))))) (gtName 15)) (fSeq (fIf (fOrT (fTest (f2 gNe (f2 gIx (fVar 15) (fC (.int 1))) (f2 gAdd (f2 gMulA (fVar 5) (fVar 4)) (fVar 11)))) (fTest (f2 gNe (fCall 2 (call 19) (fAc (f2 gIx (fVar 15) (fC (.int 0))) (fAc (f2 gIx (fVar 15) (fC (.int 2))) fA0))) (fCall 2 (call 19) (fAc (fVar 3) (fAc (fVar 7) fA0)))))) (fRet (fC (.bool false))) fNext) (fIf (fTest (f2 gNe (fL gRepr (fAc (fL gLst (fAc (fVar 3) (fAc (fVar 7) fA0))) fA0)) (fVar 9))) (fRet (fC (.bool false))) fNext)))))))))))
theorem checks (n : Nat) {sc b : W} {x2 x8 x9 x10 x11 x12 x13 x14 x15 : Option W} (D : Drawn hs A rm hf) (K : Ok hs A ws o rm) (hl : hs.length ≤ 10000) (wb : ∀ w ∈ ws, w.natAbs < 999999999999) :
    ∃ y9 y10 y11 y13 y14 y15, chk21 (callN (n + 6)) (r21 hs rm hf A ws sc b x2 x8 x9 x10 x11 x12 x13 x14 x15) S = .next (r21 hs rm hf A ws sc b x2 x8 y9 y10 y11 x12 y13 y14 y15) S := by
  have O := K.O
  have cap := K.cap
  have rz := K.rz
  have lw := K.lw
  have hf01 := D.hf
  have bd9 : ∀ w ∈ hs, w.natAbs < 999999999999 := fun w m => by have := D.bd w m; omega
  have ob : ∀ a ∈ o, a ≤ 100000 := fun a ma => by have := D.az a (O.sub a ma); omega
  have ol : o.length ≤ 5000 := Nat.le_trans (len_tot o) (Nat.le_trans (tot_sub O.nd O.sub) K.W.sz)
  -- the base
  obtain ⟨base, hb⟩ : ∃ base : Nat, (hf = 0 ∧ base = rm) ∨ (hf = 1 ∧ base = 0) := by
    rcases hf01 with e | e
    · exact ⟨rm, .inl ⟨e, rfl⟩⟩
    · exact ⟨0, .inr ⟨e, rfl⟩⟩
  obtain ⟨hf2, base2, hb2, eh2⟩ : ∃ hf2 base2 : Nat, ((hf2 = 0 ∧ base2 = rm) ∨ (hf2 = 1 ∧ base2 = 0)) ∧ (hf2 : Int) = 1 - (hf : Int) := by
    rcases hf01 with e | e
    · exact ⟨1, 0, .inr ⟨rfl, rfl⟩, by omega⟩
    · exact ⟨0, rm, .inl ⟨rfl, rfl⟩, by omega⟩
  have hbo : base = rm ∨ base = 0 := by rcases hb with ⟨_, e⟩ | ⟨_, e⟩ <;> omega
  have hbo2 : base2 = rm ∨ base2 = 0 := by rcases hb2 with ⟨_, e⟩ | ⟨_, e⟩ <;> omega
  have sb : ∀ S', gMulA (iw (1 - (hf : Int))) (iw (rm : Int)) S' = some (iw (base : Int), S') := fun S' => by
    rw [g_mul (by omega) (by omega)]
    rcases hb with ⟨e, e'⟩ | ⟨e, e'⟩ <;> subst e <;> subst e' <;> simp
  have sb2 : ∀ S', gMulA (iw (hf : Int)) (iw (rm : Int)) S' = some (iw (base2 : Int), S') := fun S' => by
    rw [g_mul (by omega) (by omega)]
    rcases hb2 with ⟨e, e'⟩ | ⟨e, e'⟩
    · have : hf = 1 := by omega
      subst this; subst e'; simp
    · have : hf = 0 := by omega
      subst this; subst e'; simp
  obtain ⟨o', K', et⟩ := K.told hbo
  have bdL := lay_bd K hbo (B := 99999999999) (by decide) D.bd
  have wbL := rel_bd K hbo wb
  have bzl : base + tot (F hs) o ≤ 2 * rm := by rcases hbo with e | e <;> omega
  have ll : (lay hs base o (2 * rm)).length = 2 * rm := lay_len bzl
  have shL := shape_told (base := base) K
  have shL2 := shape_told (base := base2) K'
  rw [shL] at shL2
  have wbb : ∀ w ∈ ws, Wd A w ∧ w.natAbs < 999999999999 := fun w m => ⟨K.hw w m, wb w m⟩
  have sF := shape_fine K.W D.bd wbb lw
  -- names for what is computed
  have tF : Fine (.int (tot (F hs) o : Int)) := (Sm.int (k := 0) (b := 0) (by omega)).fine (by decide) (by decide)
  have iF : ∀ i : Nat, i ≤ 100000 → SeqAt.shaped (.int (i : Int)) = true := fun i h => ((Sm.int (k := 0) (b := 0) (by omega)).fine (by decide) (by decide)).sh
  generalize hL : lay hs base o (2 * rm) = L at *
  generalize hV : ws.map (rel (F hs) base o) = V at *
  have rf : Fine (.list [.tuple (ivs hs), .tuple (ivs ws)]) := (Sm.list (Sms.cons (tup_sm (k := 0) (b := 100000) bd9 (by omega)) (Sms.one (tup_sm (k := 0) (b := 100000) wb (by omega))))).fine (by decide) (by decide)
  generalize hT : PyData.shown (.list [.tuple (ivs hs), .tuple (ivs ws)]) = T
  have lV : V.length ≤ 1000 := by rw [← hV, List.length_map]; exact lw
  have wbV : ∀ w ∈ V, Wd (o.map (pos (F hs) base o)) w ∧ w.natAbs < 999999999999 := fun w m => ⟨K'.hw w m, wbL w m⟩
  -- what the calls tell
  obtain ⟨ex14, c14⟩ := k_lreached (n + 4) (S := S) K.W K.hw lw O
  obtain ⟨ex3, c3⟩ := k_reached (n + 3) (S := S) (q := false) K.W K.hw lw O
  have c4 := k_rwords (n + 2) (S := S) (q := false) K.W K.hw lw O
  have c4' := k_rwords (n + 2) (S := S) (q := false) K'.W K'.hw lV K'.O
  rw [et] at c4'
  obtain ⟨ex7, c7⟩ := k_collected (S := S) (n + 1) K hb
  obtain ⟨ex72, c72⟩ := k_collected (S := S) (n + 1) K' hb2
  rw [eh2] at c72
  have eT : outT hs base rm o ws = [.tuple (ivs L), .int ((base + tot (F hs) o : Nat) : Int), .tuple (ivs V)] := by unfold outT; rw [hL, hV]
  rw [eT] at c7
  obtain ⟨L2, hL2⟩ : ∃ L2, lay L base2 o' (2 * rm) = L2 := ⟨_, rfl⟩
  obtain ⟨V2, hV2⟩ : ∃ V2, V.map (rel (F L) base2 o') = V2 := ⟨_, rfl⟩
  have eT2 : outT L base2 rm o' V = [.tuple (ivs L2), .int ((base2 + tot (F hs) o : Nat) : Int), .tuple (ivs V2)] := by unfold outT; rw [hL2, hV2, et]
  rw [eT2] at c72
  obtain ⟨o2, K2, et2⟩ := K'.told hbo2
  rw [hL2, hV2] at K2 shL2
  have lV2 : V2.length ≤ 1000 := by rw [← hV2, List.length_map]; exact lV
  have rl : ∀ S' : Store, fL gRepr (fAc (fL gLst (fAc (fVar 3) (fAc (fVar 7) fA0))) fA0) = fL gRepr (fAc (fL gLst (fAc (fVar 3) (fAc (fVar 7) fA0))) fA0) := fun _ => rfl
  have rp : ∀ (ρ : Rho), ρ[3]? = some (some (ti hs)) → ρ[7]? = some (some (ti ws)) → fL gRepr (fAc (fL gLst (fAc (fVar 3) (fAc (fVar 7) fA0))) fA0) ρ S = .ok (.d (.str T)) S := fun ρ h3 h7 => by
    rw [← hT]
    exact ev_L (ws := [.d (.list [.tuple (ivs hs), .tuple (ivs ws)])]) (ev_one (ev_L (ws := [ti hs, ti ws]) (ev_ac (ev_var h3) (ev_one (ev_var h7))) rfl)) (gRepr_fine (by rw [asD]) rf)
  have hr : ∀ (ρ : Rho), ρ[3]? = some (some (ti hs)) → ρ[7]? = some (some (ti ws)) → fAc (fVar 3) (fAc (fVar 7) fA0) ρ S = .ok [ti hs, ti ws] S := fun ρ h3 h7 => ev_ac (ev_var h3) (ev_one (ev_var h7))
  refine ⟨some (.d (.str T)), some (li (srt o)), some (iw (tot (F hs) o : Int)), some (tu [.list (ivs L), .int ((base + tot (F hs) o : Nat) : Int), .list (ivs V)]), some (tu [.tuple (ivs L), .int ((base + tot (F hs) o : Nat) : Int), .tuple (ivs V)]), some (tu [.tuple (ivs L2), .int ((base2 + tot (F hs) o : Nat) : Int), .tuple (ivs V2)]), ?_⟩
  refine (ev_seq (ρ1 := r21 hs rm hf A ws sc b x2 x8 (some (.d (.str T))) (some (li (srt o))) x11 x12 x13 x14 x15) (S1 := S) ?_).trans ?_
  · unfold fPar
    rw [ev_ac (rp _ rfl rfl) (ev_one (ev_ext (ws := [ti hs, ti ws]) (hr _ rfl rfl) c14))]
    rfl
  -- the words
  obtain ⟨ok, hok, hit⟩ := it_pure (a := fVar 10) (ρ := r21 hs rm hf A ws sc b x2 x8 (some (.d (.str T))) (some (li (srt o))) x11 x12 x13 x14 x15) (S := S) (xs := ivs (srt o)) (ev_var rfl) (.inl rfl)
  have lc := flc_all (g := gtName 12) (el := f2 gAdd (fC (.int 1)) (fL gLen (fAc (f2 gIx (fCall 2 (callN (n + 6) 13) (fAc (fVar 3) (fAc (fVar 12) fA0))) (fC (.int 2))) fA0))) (vs := [12]) (f := fun (w : VI.W) => match w with | VI.W.d (.int i) => PyData.int (szI hs i) | _ => PyData.none) hit (by rw [List.length_map, ivs_len, srt_len]; omega) (fun S' _ => hok S') fun w m S' s => by
    obtain ⟨d, md, rfl⟩ := List.mem_map.mp m
    obtain ⟨i, mi, rfl⟩ := List.mem_map.mp md
    obtain ⟨a, ma, rfl⟩ := srt_mem mi
    have maA := O.sub a ma
    refine ⟨r21 hs rm hf A ws sc b x2 x8 (some (.d (.str T))) (some (li (srt o))) x11 (some (iw (a : Int))) x13 x14 x15, rfl, ?_⟩
    have f13 : fCall 2 (callN (n + 6) 13) (fAc (fVar 3) (fAc (fVar 12) fA0)) (r21 hs rm hf A ws sc b x2 x8 (some (.d (.str T))) (some (li (srt o))) x11 (some (iw (a : Int))) x13 x14 x15) S' = .ok (tu [.int (hs.getD a 0 / 2 % 5), .int (hs.getD a 0 / 2 / 5 / 256), .tuple (ivs (F hs a))]) S' :=
      fcall_at (ws := [ti hs, iw (a : Int)]) (ev_ac (ev_var rfl) (ev_one (ev_var rfl))) (k_lread (n + 5) (K.W.lt maA) (K.W.ok a maA).2) rfl rfl
    have ln : gLen [ti (F hs a)] S' = some (iw ((F hs a).length : Int), S') := by
      show some (iw ((ivs (F hs a)).length : Int), S') = _
      rw [ivs_len]
    refine ev_f2 rfl (ev_L (ev_one (ev_f2 f13 rfl rfl)) ln) ?_
    rw [g_addI, K.W.len maA]
    show some (iw _, S') = some (iw (szI hs (a : Int)), S')
    unfold szI
    rw [Int.toNat_natCast, Int.add_comm]
  have e : ((ivs (srt o)).map VI.W.d).map (fun (w : VI.W) => match w with | VI.W.d (.int i) => PyData.int (szI hs i) | _ => PyData.none) = ivs ((srt o).map (szI hs)) := by
    unfold ivs
    rw [List.map_map, List.map_map, List.map_map]
    rfl
  rw [e] at lc
  refine (ev_seq (ρ1 := r21 hs rm hf A ws sc b x2 x8 (some (.d (.str T))) (some (li (srt o))) (some (iw (tot (F hs) o : Int))) x12 x13 x14 x15) (S1 := S) (ev_asg (i := 11) (x := iw (tot (F hs) o : Int)) (ev_L (ev_one lc) (by rw [g_sum, sum_srt K.W O.sub])))).trans ?_
  -- reached
  refine (ev_seq (ρ1 := r21 hs rm hf A ws sc b x2 x8 (some (.d (.str T))) (some (li (srt o))) (some (iw (tot (F hs) o : Int))) x12 x13 x14 x15) (S1 := S) ((ev_no (no_alike (n + 5) (d := .list [.tuple (ivs (srt o)), .int (tot (F hs) o : Int)]) (S1 := S) ?_ ?_ (told_fine (srt_bd ob) (by rw [srt_len]; omega) (by omega)))).trans rfl)).trans ?_
  · exact ev_L (ws := [ti (srt o), iw (tot (F hs) o : Int)]) (ev_ac (S1 := S) (ev_ext (ws := [ti hs, ti ws]) (hr _ rfl rfl) c3) (ev_one (fcall_at (ws := [ti hs, ti ws]) (hr _ rfl rfl) c4 rfl rfl))) rfl
  · exact ev_L (ws := [ti (srt o), iw (tot (F hs) o : Int)]) (ev_ac (S1 := S) (ev_L (ws := [li (srt o)]) (ev_one (ev_var rfl)) rfl) (ev_one (ev_var rfl))) rfl
  -- the law's, the program's
  have cl := k_lcol (S := S) (n + 3) (ρ := r21 hs rm hf A ws sc b x2 x8 (some (.d (.str T))) (some (li (srt o))) (some (iw (tot (F hs) o : Int))) x12 x13 x14 x15) (fa := fAc (fVar 3) (fAc (fVar 4) (fAc (fVar 5) (fAc (fL gList (fAc (fVar 7) fA0)) fA0)))) K hb (ev_ac (ev_var rfl) (ev_ac (ev_var rfl) (ev_ac (ev_var rfl) (ev_one (ev_L (ws := [ti ws]) (ev_one (ev_var rfl)) rfl)))))
  rw [hL, hV] at cl
  refine (ev_seq (ρ1 := r21 hs rm hf A ws sc b x2 x8 (some (.d (.str T))) (some (li (srt o))) (some (iw (tot (F hs) o : Int))) x12 (some (tu [.list (ivs L), .int ((base + tot (F hs) o : Nat) : Int), .list (ivs V)])) x14 x15) (S1 := S) (ev_asg (i := 13) cl)).trans ?_
  refine (ev_seq (ρ1 := r21 hs rm hf A ws sc b x2 x8 (some (.d (.str T))) (some (li (srt o))) (some (iw (tot (F hs) o : Int))) x12 (some (tu [.list (ivs L), .int ((base + tot (F hs) o : Nat) : Int), .list (ivs V)])) (some (tu [.tuple (ivs L), .int ((base + tot (F hs) o : Nat) : Int), .tuple (ivs V)])) x15) (S1 := S) (ev_asg (i := 14) (ev_ext (ws := [ti hs, iw (rm : Int), iw (hf : Int), ti ws]) (ev_ac (ev_var rfl) (ev_ac (ev_var rfl) (ev_ac (ev_var rfl) (ev_one (ev_var rfl))))) c7))).trans ?_
  generalize hρ : r21 hs rm hf A ws sc b x2 x8 (some (.d (.str T))) (some (li (srt o))) (some (iw (tot (F hs) o : Int))) x12 (some (tu [.list (ivs L), .int ((base + tot (F hs) o : Nat) : Int), .list (ivs V)])) (some (tu [.tuple (ivs L), .int ((base + tot (F hs) o : Nat) : Int), .tuple (ivs V)])) x15 = ρ
  have v3 : fVar 3 ρ S = .ok (ti hs) S := by rw [← hρ]; exact ev_var rfl
  have v4 : fVar 4 ρ S = .ok (iw (rm : Int)) S := by rw [← hρ]; exact ev_var rfl
  have v5 : fVar 5 ρ S = .ok (iw (hf : Int)) S := by rw [← hρ]; exact ev_var rfl
  have v7 : fVar 7 ρ S = .ok (ti ws) S := by rw [← hρ]; exact ev_var rfl
  have v11 : fVar 11 ρ S = .ok (iw (tot (F hs) o : Int)) S := by rw [← hρ]; exact ev_var rfl
  have v13 : fVar 13 ρ S = .ok (tu [.list (ivs L), .int ((base + tot (F hs) o : Nat) : Int), .list (ivs V)]) S := by rw [← hρ]; exact ev_var rfl
  have v14 : fVar 14 ρ S = .ok (tu [.tuple (ivs L), .int ((base + tot (F hs) o : Nat) : Int), .tuple (ivs V)]) S := by rw [← hρ]; exact ev_var rfl
  have hh : fAc (fVar 3) (fAc (fVar 7) fA0) ρ S = .ok [ti hs, ti ws] S := ev_ac v3 (ev_one v7)
  have t0 : f2 gIx (fVar 14) (fC (.int 0)) ρ S = .ok (ti L) S := ev_f2 v14 rfl rfl
  have t1 : f2 gIx (fVar 14) (fC (.int 1)) ρ S = .ok (iw ((base + tot (F hs) o : Nat) : Int)) S := ev_f2 v14 rfl rfl
  have t2 : f2 gIx (fVar 14) (fC (.int 2)) ρ S = .ok (ti V) S := ev_f2 v14 rfl rfl
  have th : fAc (f2 gIx (fVar 14) (fC (.int 0))) (fAc (f2 gIx (fVar 14) (fC (.int 2))) fA0) ρ S = .ok [ti L, ti V] S := ev_ac t0 (ev_one t2)
  have bzt : base + tot (F hs) o ≤ 100000 := by omega
  have bz2 : base2 + tot (F hs) o ≤ 100000 := by rcases hbo2 with e | e <;> omega
  have bdL9 : ∀ w ∈ L, w.natAbs < 999999999999 := fun w m => by have := bdL w m; omega
  refine (ev_seq (ρ1 := ρ) (S1 := S) ((ev_no (no_alike (n + 5) (d := .tuple [.tuple (ivs L), .int ((base + tot (F hs) o : Nat) : Int), .tuple (ivs V)]) (S1 := S) v14 ?_ (out_fine bdL9 (by omega) (by omega) wbL (by omega)))).trans rfl)).trans ?_
  · exact ev_L (ws := [ti L, iw ((base + tot (F hs) o : Nat) : Int), ti V]) (ev_ac (S1 := S) (ev_L (ws := [li L]) (ev_one (ev_f2 v13 rfl rfl)) rfl) (ev_ac (S1 := S) (ev_f2 v13 rfl rfl) (ev_one (ev_L (ws := [li V]) (ev_one (ev_f2 v13 rfl rfl)) rfl)))) rfl
  -- shapes
  have sh1 : fCall 2 (callN (n + 6) 19) (fAc (fVar 3) (fAc (fVar 7) fA0)) ρ S = .ok (.d (.list (shape hs ws))) S := k_shape (n + 4) K.W K.hw lw hh
  have sh2 : fCall 2 (callN (n + 6) 19) (fAc (f2 gIx (fVar 14) (fC (.int 0))) (fAc (f2 gIx (fVar 14) (fC (.int 2))) fA0)) ρ S = .ok (.d (.list (shape hs ws))) S := by
    rw [← shL]
    exact k_shape (n + 4) K'.W K'.hw lV th
  have ne1 : fTest (f2 gNe (f2 gIx (fVar 14) (fC (.int 1))) (f2 gAdd (f2 gMulA (f2 gSub (fC (.int 1)) (fVar 5)) (fVar 4)) (fVar 11))) ρ S = .ok false S := by
    refine ev_test (ev_f2 t1 (ev_f2 (ev_f2 (ev_f2 rfl v5 rfl) v4 (sb S)) v11 g_addI) ?_)
    have e2 : ((base : Int) + (tot (F hs) o : Int)) = ((base + tot (F hs) o : Nat) : Int) := by omega
    rw [e2]
    exact gNe_same (iF _ bzt)
  have or1 : ∀ {a c : FT} {ρ : Rho}, a ρ S = .ok false S → c ρ S = .ok false S → fOrT a c ρ S = .ok false S := fun {a c ρ} h1 h2 => by
    unfold fOrT
    rw [h1, R_ok, if_neg (by decide), h2]
  refine (ev_seq (ρ1 := ρ) (S1 := S) ((ev_no (or1 (ev_test (ev_f2 sh2 sh1 (gNe_same sF.sh))) ne1)).trans rfl)).trans ?_
  refine (ev_seq (ρ1 := ρ) (S1 := S) ((ev_no (no_alike (n + 5) (d := .int (tot (F hs) o : Int)) (S1 := S) (fcall_at (ws := [ti L, ti V]) th c4' rfl rfl) v11 tF)).trans rfl)).trans ?_
  refine (ev_seq (ρ1 := r21 hs rm hf A ws sc b x2 x8 (some (.d (.str T))) (some (li (srt o))) (some (iw (tot (F hs) o : Int))) x12 (some (tu [.list (ivs L), .int ((base + tot (F hs) o : Nat) : Int), .list (ivs V)])) (some (tu [.tuple (ivs L), .int ((base + tot (F hs) o : Nat) : Int), .tuple (ivs V)])) (some (tu [.tuple (ivs L2), .int ((base2 + tot (F hs) o : Nat) : Int), .tuple (ivs V2)]))) (S1 := S) ?_).trans ?_
  · have q := ev_asg (i := 15) (ev_ext (n := 4) (ws := [ti L, iw (rm : Int), iw (1 - (hf : Int)), ti V]) (ev_ac t0 (ev_ac v4 (ev_ac (ev_f2 (g := gSub) (a := fC (.int 1)) (x := iw 1) (S1 := S) rfl v5 rfl) (ev_one t2)))) c72)
    rw [← hρ] at q ⊢
    exact q
  generalize hρ2 : r21 hs rm hf A ws sc b x2 x8 (some (.d (.str T))) (some (li (srt o))) (some (iw (tot (F hs) o : Int))) x12 (some (tu [.list (ivs L), .int ((base + tot (F hs) o : Nat) : Int), .list (ivs V)])) (some (tu [.tuple (ivs L), .int ((base + tot (F hs) o : Nat) : Int), .tuple (ivs V)])) (some (tu [.tuple (ivs L2), .int ((base2 + tot (F hs) o : Nat) : Int), .tuple (ivs V2)])) = ρ2
  have u3 : fVar 3 ρ2 S = .ok (ti hs) S := by rw [← hρ2]; exact ev_var rfl
  have u4 : fVar 4 ρ2 S = .ok (iw (rm : Int)) S := by rw [← hρ2]; exact ev_var rfl
  have u5 : fVar 5 ρ2 S = .ok (iw (hf : Int)) S := by rw [← hρ2]; exact ev_var rfl
  have u7 : fVar 7 ρ2 S = .ok (ti ws) S := by rw [← hρ2]; exact ev_var rfl
  have u9 : fVar 9 ρ2 S = .ok (.d (.str T)) S := by rw [← hρ2]; exact ev_var rfl
  have u11 : fVar 11 ρ2 S = .ok (iw (tot (F hs) o : Int)) S := by rw [← hρ2]; exact ev_var rfl
  have u15 : fVar 15 ρ2 S = .ok (tu [.tuple (ivs L2), .int ((base2 + tot (F hs) o : Nat) : Int), .tuple (ivs V2)]) S := by rw [← hρ2]; exact ev_var rfl
  have rp2 := rp ρ2 (by rw [← hρ2]; rfl) (by rw [← hρ2]; rfl)
  have ag : fAc (f2 gIx (fVar 15) (fC (.int 0))) (fAc (f2 gIx (fVar 15) (fC (.int 2))) fA0) ρ2 S = .ok [ti L2, ti V2] S := ev_ac (ev_f2 u15 rfl rfl) (ev_one (ev_f2 u15 rfl rfl))
  have sh3 : fCall 2 (callN (n + 6) 19) (fAc (f2 gIx (fVar 15) (fC (.int 0))) (fAc (f2 gIx (fVar 15) (fC (.int 2))) fA0)) ρ2 S = .ok (.d (.list (shape hs ws))) S := by
    rw [← shL2]
    exact k_shape (n + 4) K2.W K2.hw lV2 ag
  have sh4 : fCall 2 (callN (n + 6) 19) (fAc (fVar 3) (fAc (fVar 7) fA0)) ρ2 S = .ok (.d (.list (shape hs ws))) S := k_shape (n + 4) K.W K.hw lw (ev_ac u3 (ev_one u7))
  have ne2 : fTest (f2 gNe (f2 gIx (fVar 15) (fC (.int 1))) (f2 gAdd (f2 gMulA (fVar 5) (fVar 4)) (fVar 11))) ρ2 S = .ok false S := by
    refine ev_test (ev_f2 (ev_f2 (z := iw ((base2 + tot (F hs) o : Nat) : Int)) (S3 := S) u15 rfl rfl) (ev_f2 (ev_f2 u5 u4 (sb2 S)) u11 g_addI) ?_)
    have e2 : ((base2 : Int) + (tot (F hs) o : Int)) = ((base2 + tot (F hs) o : Nat) : Int) := by omega
    rw [e2]
    exact gNe_same (iF _ bz2)
  refine (ev_seq (ρ1 := ρ2) (S1 := S) ((ev_no (or1 ne2 (ev_test (ev_f2 sh3 sh4 (gNe_same sF.sh))))).trans rfl)).trans ?_
  refine (ev_no (S1 := S) (ev_test (ev_f2 rp2 u9 ?_))).trans ?_
  · show some (bt (!(T == T)), S) = _
    rw [beq_self_eq_true]
    rfl
  · rw [← hρ2]
    rfl
end
end Q9
end VI
set_option Elab.async false
set_option linter.all false
set_option maxRecDepth 100000
namespace VI
open PySem PySem.Spec PyProof.Rows L2
namespace Q9
open C9

theorem ne_nilD {S : Store} (t : List Int) : gNe (li t) (.d (.list [])) S = some (bt (!decide (t = [])), S) := by
  have e1 : gNeS (li t) (.d (.list [])) S = none := rfl
  unfold gNe
  rw [e1]
  unfold gNeD
  simp only [asD]
  rw [if_pos ⟨shaped_li t, shaped_li []⟩]
  cases t with
  | nil => rfl
  | cons x t => rfl
noncomputable abbrev rE (call : Calls) : FE := (fIfE (fAndT (fTest (f2 gNe (fVar 6) (fL gLst fA0))) (fTest (f2 gGt (fCall 2 (call 9) (fAc (fVar 1) (fAc (fC (.int 4)) fA0))) (fC (.int 0))))) (f2 gMulA (fC (.int 2)) (fCall 2 (call 10) (fAc (fVar 1) (fAc (fVar 6) fA0)))) (fC (.int 11)))
theorem root_one (n : Nat) {S : Store} {N : Nat} {ρ : Rho} {A : List Nat} (h1 : ρ[1]? = some (some (.loc 0))) (h6 : ρ[6]? = some (some (li (nat A)))) (hb : BG S 0 N) (hN : N + 2 < 2 ^ 58) (hA : A.length < 1000) (hz : ∀ a ∈ A, a ≤ 10000) :
    ∃ (w : Int) (S' : Store), (Wd A w ∧ w.natAbs ≤ 100000) ∧ rE (callN (n + 2)) ρ S = .ok (iw w) S' ∧ S'.length = S.length ∧ BG S' 0 (N + 2) := by
  have t0 : fTest (f2 gNe (fVar 6) (fL gLst fA0)) ρ S = .ok (!decide (nat A = [])) S := ev_test (ev_f2 (ev_var h6) (ev_L (ws := []) (S1 := S) rfl rfl) (ne_nilD _))
  by_cases q : A = []
  · subst q
    refine ⟨11, S, ⟨.inl rfl, by decide⟩, (ev_ifn (S1 := S) ?_).trans rfl, rfl, hb.mono (by omega)⟩
    unfold fAndT
    rw [t0]
    rfl
  · have qn : ¬ (nat A = []) := fun e => q (List.map_eq_nil_iff.mp e)
    rw [decide_eq_false qn] at t0
    have hl : 0 < A.length := List.length_pos_iff.mpr q
    obtain ⟨v, S1, e1, hv, z1, b1, o1⟩ := k_take (n + 1) (m := 4) hb (by omega) (by decide)
    have f9 : fCall 2 (callN (n + 2) 9) (fAc (fVar 1) (fAc (fC (.int 4)) fA0)) ρ S = .ok (iw v) S1 := fcall_at (ws := [.loc 0, iw 4]) (ev_ac (ev_var h1) (ev_one rfl)) e1 z1 rfl
    have tst : fAndT (fTest (f2 gNe (fVar 6) (fL gLst fA0))) (fTest (f2 gGt (fCall 2 (callN (n + 2) 9) (fAc (fVar 1) (fAc (fC (.int 4)) fA0))) (fC (.int 0)))) ρ S = .ok (decide (0 < v)) S1 := by
      unfold fAndT
      rw [t0, R_ok]
      exact ev_test (ev_f2 f9 rfl rfl)
    by_cases p : 0 < v
    · rw [decide_eq_true p] at tst
      obtain ⟨x, S2, mx, e2, z2, b2, o2⟩ := k_some n b1 (by omega) (ds := ivs (nat A)) (by rw [ivs_len, nat_len]; omega)
      obtain ⟨i, mi, rfl⟩ := List.mem_map.mp mx
      obtain ⟨a, ma, rfl⟩ := List.mem_map.mp mi
      have f10 : fCall 2 (callN (n + 2) 10) (fAc (fVar 1) (fAc (fVar 6) fA0)) ρ S1 = .ok (iw (a : Int)) S2 := fcall_at (ws := [.loc 0, li (nat A)]) (ev_ac (ev_var h1) (ev_one (ev_var h6))) e2 z2 rfl
      have := hz a ma
      exact ⟨2 * (a : Int), S2, ⟨.inr ⟨a, ma, rfl⟩, by omega⟩, (ev_ify tst).trans (ev_f2 rfl f10 (g_mul (by decide) (by omega))), by omega, b2⟩
    · rw [decide_eq_false p] at tst
      exact ⟨11, S1, ⟨.inl rfl, by decide⟩, (ev_ifn tst).trans rfl, z1, b1.mono (by omega)⟩
noncomputable abbrev tb21 (call : Calls) : FS := (fSeq (fAsg (fCall 1 (call 18) (fAc (fVar 1) fA0)) (gtTup 4 (gtCons (gtName 3) (gtCons (gtName 4) (gtCons (gtName 5) (gtCons (gtName 6) gtNil)))))) (fSeq (fAsg (fL gTup fA0) (gtName 7)) (fSeq (fFor (fRng rng1 (fAc (fCall 2 (call 9) (fAc (fVar 1) (fAc (fC (.int 6)) fA0))) fA0)) (gtName 8) (fAsg (f2 gAdd (fVar 7) (fL gTup (fAc (rE call) fA0))) (gtName 7))) (chk21 call))))
theorem Ok.of {hs : List Int} {A : List Nat} {rm hf : Nat} {ws : List Int} (D : Drawn hs A rm hf) (hw : ∀ w ∈ ws, Wd A w) (hl : ws.length ≤ 1000) : Ok hs A ws (ord (F hs) ws) rm := by
  have O := ord_ok D.W.nd (by have := D.W.al; omega) D.W.wd hw
  exact ⟨D.W, hw, hl, rfl, Nat.le_trans (tot_sub O.nd O.sub) D.cap, D.rz⟩
theorem round (n : Nat) {S : Store} {N : Nat} {sc : W} {x2 x3 x4 x5 x6 x7 x8 x9 x10 x11 x12 x13 x14 x15 : Option W} (hb : BG S 0 N) (hN : N + 400 < 2 ^ 58) (h1 : S.length = 1) :
    ∃ ρ' S', tb21 (callN (n + 6)) [some sc, some (.loc 0), x2, x3, x4, x5, x6, x7, x8, x9, x10, x11, x12, x13, x14, x15] S = .next ρ' S' ∧ (∃ y3 y4 y5 y6 y7 y8 y9 y10 y11 y12 y13 y14 y15, ρ' = [some sc, some (.loc 0), x2, y3, y4, y5, y6, y7, y8, y9, y10, y11, y12, y13, y14, y15]) ∧ S'.length = 1 ∧ BG S' 0 (N + 300) := by
  obtain ⟨hs, A, rm, hf, S1, e1, D, l1, b1⟩ := k_drawn (n + 2) hb (by omega) h1 (fa := fAc (fVar 1) fA0) (ρ := [some sc, some (.loc 0), x2, x3, x4, x5, x6, x7, x8, x9, x10, x11, x12, x13, x14, x15]) (ev_one (ev_var rfl))
  obtain ⟨v, S2, e2, hv, z2, b2, o2⟩ := k_take (n + 5) (m := 6) b1 (by omega) (by decide)
  obtain ⟨k, rfl⟩ : ∃ k : Nat, v = (k : Int) := ⟨v.toNat, by omega⟩
  have inv := for_invB (m := k) (i := 8) (b := fAsg (f2 gAdd (fVar 7) (fL gTup (fAc (rE (callN (n + 6))) fA0))) (gtName 7))
    (I := fun j ρ S3 => ∃ x8 ws, ρ = r21 hs rm hf A ws sc (.loc 0) x2 x8 x9 x10 x11 x12 x13 x14 x15 ∧ ws.length = j ∧ (∀ w ∈ ws, Wd A w ∧ w.natAbs ≤ 100000) ∧ S3.length = 1 ∧ BG S3 0 (N + 200 + 1 + 2 * j))
    (fun j w ρ S3 hj ⟨x8, ws, er, q1, q2, q3, q4⟩ => by
      subst er
      obtain ⟨u, S4, hu, ev, z4, b4⟩ := root_one (n + 4) (ρ := r21 hs rm hf A ws sc (.loc 0) x2 (some w) x9 x10 x11 x12 x13 x14 x15) (A := A) rfl rfl q4 (by omega) D.al D.az
      refine ⟨_, S4, ev_asg (i := 7) (x := ti (ws ++ [u])) (ev_f2 (ev_var rfl) (ev_L (ws := [iw u]) (ev_one ev) rfl) ?_), some w, ws ++ [u], rfl, by rw [List.length_append, q1]; rfl, fun t mt => ?_, by omega, b4.mono (by omega)⟩
      · show gAdd (ti ws) (ti [u]) S4 = _
        rw [g_catT (by rw [ivs_len, ivs_len]; show _ + 1 ≤ _; omega), ← ivs_app]
      · rcases List.mem_append.mp mt with m | m
        · exact q2 t m
        · rw [List.mem_singleton.mp m]; exact hu)
    (rangeW 0 k) 0 (r21 hs rm hf A [] sc (.loc 0) x2 x8 x9 x10 x11 x12 x13 x14 x15) S2 (by rw [rangeW_len]; omega)
    ⟨x8, [], rfl, rfl, (fun _ m => by cases m), by omega, b2.mono (by omega)⟩
  obtain ⟨ρ3, S3, e3, x8', ws, er, q1, q2, q3, q4⟩ := inv
  rw [rangeW_len, Nat.zero_add] at q1 q4
  subst er
  have K := Ok.of D (fun w m => (q2 w m).1) (by omega)
  obtain ⟨y9, y10, y11, y13, y14, y15, e4⟩ := checks (S := S3) n (sc := sc) (b := .loc 0) (x2 := x2) (x8 := x8') (x9 := x9) (x10 := x10) (x11 := x11) (x12 := x12) (x13 := x13) (x14 := x14) (x15 := x15) D K D.hl (fun w m => by have := (q2 w m).2; omega)
  refine ⟨r21 hs rm hf A ws sc (.loc 0) x2 x8' y9 y10 y11 x12 y13 y14 y15, S3, ?_, ⟨_, _, _, _, _, _, _, _, _, _, _, _, _, rfl⟩, q3, q4.mono (by omega)⟩
  refine (ev_seq (ρ1 := [some sc, some (.loc 0), x2, some (ti hs), some (iw (rm : Int)), some (iw (hf : Int)), some (li (nat A)), x7, x8, x9, x10, x11, x12, x13, x14, x15]) (S1 := S1) ?_).trans ?_
  · unfold fAsg
    rw [e1]
    rfl
  refine (ev_seq (ρ1 := r21 hs rm hf A [] sc (.loc 0) x2 x8 x9 x10 x11 x12 x13 x14 x15) (S1 := S1) rfl).trans ?_
  refine (ev_seq (ρ1 := r21 hs rm hf A ws sc (.loc 0) x2 x8' x9 x10 x11 x12 x13 x14 x15) (S1 := S3) ?_).trans e4
  unfold fFor
  have f9 : fCall 2 (callN (n + 6) 9) (fAc (fVar 1) (fAc (fC (.int 6)) fA0)) (r21 hs rm hf A [] sc (.loc 0) x2 x8 x9 x10 x11 x12 x13 x14 x15) S1 = .ok (iw (k : Int)) S2 := fcall_at (ws := [.loc 0, iw 6]) (ev_ac (ev_var rfl) (ev_one rfl)) e2 z2 rfl
  have rg : fRng rng1 (fAc (fCall 2 (callN (n + 6) 9) (fAc (fVar 1) (fAc (fC (.int 6)) fA0))) fA0) (r21 hs rm hf A [] sc (.loc 0) x2 x8 x9 x10 x11 x12 x13 x14 x15) S1 = .ok ⟨rangeW 0 k, fun _ => True⟩ S2 := by
    have ea := ev_one f9
    unfold fRng
    rw [ea, R_ok]
    exact rng_at k (by omega)
  rw [rg]
  exact e3
def mny : List PyData := [.int 700, .int 300]
theorem mny_at {x : PyData} (h : x ∈ mny) : ∃ m : Nat, x = .int (m : Int) ∧ (m = 700 ∨ m = 300) := by
  simp only [mny, List.mem_cons, List.not_mem_nil, or_false] at h
  rcases h with h | h
  · exact ⟨700, h, .inl rfl⟩
  · exact ⟨300, h, .inr rfl⟩
theorem law_ok (n : Nat) {ns : List Int} (h : ns.length ≤ 63) : ∃ S', callN (n + 8) 21 [scriptW ns] [] = .ok (.d (.bool true)) S' := by
  obtain ⟨b, eb, fit, b0⟩ := bag_run h
  have hb : BG [b.so] 0 0 := ⟨b, rfl, fit, by omega⟩
  have e8 : callN (n + 7) 8 [scriptW ns] [] = .ok (.loc 0) [b.so] := eb
  let ρ0 : Rho := [some (scriptW ns), some (.loc 0), none, none, none, none, none, none, none, none, none, none, none, none, none, none]
  obtain ⟨v, S1, e1, hv, z1, b1, o1⟩ := k_take (n + 6) (m := 8) hb (by omega) (by decide)
  have f9 : fCall 2 (callN (n + 7) 9) (fAc (fVar 1) (fAc (fC (.int 8)) fA0)) ρ0 [b.so] = .ok (iw v) S1 := fcall_at (ws := [.loc 0, iw 8]) (ev_ac (ev_var rfl) (ev_one rfl)) e1 z1 rfl
  have t0 : fTest (f2 gEq (fCall 2 (callN (n + 7) 9) (fAc (fVar 1) (fAc (fC (.int 8)) fA0))) (fC (.int 0))) ρ0 [b.so] = .ok (decide (v = 0)) S1 := ev_test (ev_f2 f9 rfl ev_eqI)
  have first : ∃ S2, fAndT (fTest (f2 gEq (fCall 2 (callN (n + 7) 9) (fAc (fVar 1) (fAc (fC (.int 8)) fA0))) (fC (.int 0)))) (fNotT (fTru (fCall 1 (callN (n + 7) 20) (fAc (fCall 2 (callN (n + 7) 10) (fAc (fVar 1) (fAc (fL gLst (fAc (fC (.int 700)) (fAc (fC (.int 300)) fA0))) fA0))) fA0)))) ρ0 [b.so] = .ok false S2 ∧ S2.length = 1 ∧ BG S2 0 2 := by
    unfold fAndT
    rw [t0, R_ok]
    by_cases q : v = 0
    · rw [decide_eq_true q, if_pos rfl]
      obtain ⟨x, S2, mx, e2, z2, b2, o2⟩ := k_some (n + 5) (ds := mny) b1 (by omega) (by decide)
      obtain ⟨m, rfl, hm⟩ := mny_at mx
      have f10 : fCall 2 (callN (n + 7) 10) (fAc (fVar 1) (fAc (fL gLst (fAc (fC (.int 700)) (fAc (fC (.int 300)) fA0))) fA0)) ρ0 S1 = .ok (iw (m : Int)) S2 := fcall_at (ws := [.loc 0, .d (.list mny)]) (ev_ac (ev_var rfl) (ev_one rfl)) e2 z2 rfl
      obtain ⟨ex, e20⟩ := k_chain (S := S2) (n + 1) hm
      have f20 : fCall 1 (callN (n + 7) 20) (fAc (fCall 2 (callN (n + 7) 10) (fAc (fVar 1) (fAc (fL gLst (fAc (fC (.int 700)) (fAc (fC (.int 300)) fA0))) fA0))) fA0) ρ0 S1 = .ok (bt true) S2 := ev_ext (ws := [iw (m : Int)]) (ev_one f10) e20
      refine ⟨S2, ?_, by rw [z2, z1]; rfl, b2⟩
      unfold fNotT fTru
      rw [f20]
      rfl
    · rw [decide_eq_false q, if_neg (by decide)]
      exact ⟨S1, rfl, by rw [z1]; rfl, b1.mono (by omega)⟩
  obtain ⟨S2, e2, l2, b2⟩ := first
  have inv := for_invB (m := 4) (i := 2) (b := tb21 (callN (n + 1 + 6)))
    (I := fun j ρ S3 => ∃ x2 x3 x4 x5 x6 x7 x8 x9 x10 x11 x12 x13 x14 x15, ρ = [some (scriptW ns), some (.loc 0), x2, x3, x4, x5, x6, x7, x8, x9, x10, x11, x12, x13, x14, x15] ∧ S3.length = 1 ∧ BG S3 0 (2 + 300 * j))
    (fun j w ρ S3 hj ⟨x2, x3, x4, x5, x6, x7, x8, x9, x10, x11, x12, x13, x14, x15, er, q1, q2⟩ => by
      subst er
      obtain ⟨ρ', S', er, ⟨y3, y4, y5, y6, y7, y8, y9, y10, y11, y12, y13, y14, y15, e'⟩, g1, g2⟩ := round (n + 1) (sc := scriptW ns) (x2 := some w) (x3 := x3) (x4 := x4) (x5 := x5) (x6 := x6) (x7 := x7) (x8 := x8) (x9 := x9) (x10 := x10) (x11 := x11) (x12 := x12) (x13 := x13) (x14 := x14) (x15 := x15) q2 (by omega) q1
      exact ⟨ρ', S', er, some w, y3, y4, y5, y6, y7, y8, y9, y10, y11, y12, y13, y14, y15, e', g1, g2.mono (by omega)⟩)
    (rangeW 0 4) 0 ρ0 S2 (by rw [rangeW_len]; decide)
    ⟨none, none, none, none, none, none, none, none, none, none, none, none, none, none, rfl, l2, b2⟩
  obtain ⟨ρ3, S3, e3, _⟩ := inv
  refine ⟨S3, ?_⟩
  show toR (b21 (callN (n + 7)) [some (scriptW ns), none, none, none, none, none, none, none, none, none, none, none, none, none, none, none] []) = _
  unfold b21
  refine ret_ok ((ev_seq (ρ1 := ρ0) (S1 := [b.so]) (ev_asg (i := 1) (x := .loc 0) ?_)).trans ?_)
  · unfold fCallL
    rw [ev_one (x := scriptW ns) (S1 := []) (ev_var rfl), R_ok, if_pos (by rfl)]
    exact e8
  refine (ev_seq (ρ1 := ρ0) (S1 := S2) ((ev_no e2).trans rfl)).trans ?_
  refine (ev_seq (ρ1 := ρ3) (S1 := S3) ?_).trans (ev_ret rfl)
  unfold fFor
  rw [rng_nat 4 (by decide)]
  exact e3
end Q9
end VI
set_option Elab.async false
set_option linter.all false
set_option maxRecDepth 100000
set_option maxHeartbeats 0
namespace VI
open PySem PySem.Spec PyProof.Rows L2
abbrev RR : PySem.W.OpenRow := PySem.W.OpenLaw.row PySem.Challenge.rw_kindsworn_k69_collections_by_shapes
def dfn (x : Str) (st : Stmt) : He.DefD := ⟨(x, none), x, x, defArgs st, defBody st, defScope st, [], []⟩
def fns : List He.DefD := [dfn "read_header" st0, dfn "size_at" st1, dfn "object_at" st2, dfn "reached" st3, dfn "reached_words" st4, dfn "collected" st7, dfn "_law_bag" st8, dfn "_law_take" st9, dfn "_law_some" st10, dfn "_law_alike" st11, dfn "_law_header" st12, dfn "_law_read" st13, dfn "_law_reached" st14, dfn "_law_collected" st15, dfn "_law_placed" st16, dfn "_law_sort_for" st17, dfn "_law_heap_drawn" st18, dfn "_law_shape" st19, dfn "_law_is_chain_right" st20, dfn "law" st21, ⟨("Moving", some "__init__"), "__init__", "Moving.__init__", defArgs (clsT 7 0), defBody (clsT 7 0), defScope (clsT 7 0), [], []⟩, ⟨("Moving", some "moved_word"), "moved_word", "Moving.moved_word", defArgs (clsT 7 1), defBody (clsT 7 1), defScope (clsT 7 1), [], []⟩, ⟨("Moving", some "move"), "move", "Moving.move", defArgs (clsT 7 2), defBody (clsT 7 2), defScope (clsT 7 2), [], []⟩]
def fas : List He.Fa := [.glo "read_header", .glo "size_at", .glo "object_at", .glo "reached", .glo "reached_words", .glo "collected", .glo "_law_bag", .glo "_law_take", .glo "_law_some", .glo "_law_alike", .glo "_law_header", .glo "_law_read", .glo "_law_reached", .glo "_law_collected", .glo "_law_placed", .glo "_law_sort_for", .glo "_law_heap_drawn", .glo "_law_shape", .glo "_law_is_chain_right", .glo "law", .glo "Moving", .free "abs", .free "int", .free "len", .free "list", .free "range", .free "repr", .free "sorted", .free "sum", .free "tuple", .free "zip", .cls "Moving", .mkr "Moving", .meth "Moving" "moved_word", .meth "Moving" "move", .noat "Moving" "found", .noat "Moving" "moved", .noat "Moving" "start", .noat "Moving" "target", .noat "Moving" "words"]
def exL (K : PySem.W.Frag) : List Bool := []
def exs (K : PySem.W.Frag) : Bool := (exL K).all id
abbrev hk : PySem.W.Hook := hookV 6 fas fns exs
def ob (s : PySem.W.SharedT) : He.AlD × Bool := obsV 6 fas fns exs (HandSHeadRun.getT s)
theorem ob_eq (s : PySem.W.SharedT) : ob s = hk.obs s.abs := obsV_eq (HandSHeadRun.getT_eq s)
def loose0 : List PySem.Str := ["read_header", "size_at", "object_at", "reached", "reached_words", "Moving", "collected", "_law_bag", "_law_take", "_law_some", "_law_alike", "_law_header", "_law_read", "_law_reached", "_law_collected"]
def loose1 : List PySem.Str := ["_law_placed", "_law_sort_for", "_law_heap_drawn", "_law_shape", "_law_is_chain_right"]
def loose : List PySem.Str := loose0 ++ (loose1)
theorem run (w : World) : HandSHeadRun.RunEq RR (PySem.W.view RR.prog [23]) hk ob 8000 loose w := by
  intro os
  kernel_rfl
/-! what the defs are told -/
def ctK (K : PySem.W.Frag) : Nat → Option Addr
  | _ => none
section
variable {P : Program} {w : World} {K : PySem.W.Frag} {h : Heap} {mg : Str → Option Value}
theorem facts (X : K.In h) (G : h.Ns mainGlobals mg) (S : He.SaysD fas fns K) (e : exs K = true) : Facts P w K mg (ctK K) where
  k_Moving := He.cls_ok (S.fact 31)
  a22 := initAt_of X G (S.fact 20) (S.fact 32) (S.def_ 20)
  a5 := methAt_of (S.fact 33) (S.def_ 21)
  a6 := methAt_of (S.fact 34) (S.def_ 22)
  n_Moving_found := He.noat_ok (S.fact 35)
  n_Moving_moved := He.noat_ok (S.fact 36)
  n_Moving_start := He.noat_ok (S.fact 37)
  n_Moving_target := He.noat_ok (S.fact 38)
  n_Moving_words := He.noat_ok (S.fact 39)
  a0 := defAt_of X G (S.fact 0) (S.def_ 0)
  a1 := defAt_of X G (S.fact 1) (S.def_ 1)
  a2 := defAt_of X G (S.fact 2) (S.def_ 2)
  a3 := defAt_of X G (S.fact 3) (S.def_ 3)
  a4 := defAt_of X G (S.fact 4) (S.def_ 4)
  a7 := defAt_of X G (S.fact 5) (S.def_ 5)
  a8 := defAt_of X G (S.fact 6) (S.def_ 6)
  a9 := defAt_of X G (S.fact 7) (S.def_ 7)
  a10 := defAt_of X G (S.fact 8) (S.def_ 8)
  a11 := defAt_of X G (S.fact 9) (S.def_ 9)
  a12 := defAt_of X G (S.fact 10) (S.def_ 10)
  a13 := defAt_of X G (S.fact 11) (S.def_ 11)
  a14 := defAt_of X G (S.fact 12) (S.def_ 12)
  a15 := defAt_of X G (S.fact 13) (S.def_ 13)
  a16 := defAt_of X G (S.fact 14) (S.def_ 14)
  a17 := defAt_of X G (S.fact 15) (S.def_ 15)
  a18 := defAt_of X G (S.fact 16) (S.def_ 16)
  a19 := defAt_of X G (S.fact 17) (S.def_ 17)
  a20 := defAt_of X G (S.fact 18) (S.def_ 18)
  a21 := defAt_of X G (S.fact 19) (S.def_ 19)
  b_abs := He.free_ok X G (S.fact 21)
  b_int := He.free_ok X G (S.fact 22)
  b_len := He.free_ok X G (S.fact 23)
  b_list := He.free_ok X G (S.fact 24)
  b_range := He.free_ok X G (S.fact 25)
  b_repr := He.free_ok X G (S.fact 26)
  b_sorted := He.free_ok X G (S.fact 27)
  b_sum := He.free_ok X G (S.fact 28)
  b_tuple := He.free_ok X G (S.fact 29)
  b_zip := He.free_ok X G (S.fact 30)
end
end VI
set_option Elab.async false
set_option linter.all false
set_option maxRecDepth 100000
set_option maxHeartbeats 0
namespace VI
open PySem PySem.Spec PyProof.Rows L2
abbrev fuel : Nat := 40
end VI
open PySem PySem.W PySem.Calls PyProof.Rows
theorem holds_of (good : ∀ ns : List Int, ns.length ≤ 63 → (∀ z ∈ ns, Builtin.Int.intBits z ≤ 1048576) → ∃ S', VI.callN (VI.fuel + 1) 21 [VI.scriptW ns] [] = .ok (.d (.bool true)) S') : PySem.Challenge.rw_kindsworn_k69_collections_by_shapes.Holds := by
  w_on; o_law
  refine HandSHeadRun.head_any (r := OpenLaw.row PySem.Challenge.rw_kindsworn_k69_collections_by_shapes) (q := view (OpenLaw.row PySem.Challenge.rw_kindsworn_k69_collections_by_shapes).prog [23]) (H := VI.hk) (ob := VI.ob) (M := 8000) (loose := VI.loose) (d := HandSHeadRun.topDef (OpenLaw.row PySem.Challenge.rw_kindsworn_k69_collections_by_shapes).prog 23) (kwd := []) VI.ob_eq
    (by kernel_rfl) (fun s => by kernel_rfl) VI.run (by kernel_rfl) (by kernel_rfl) (by kernel_rfl) (by rfl) (by first | assumption | decide +kernel) (by decide +kernel) ⟨rfl, rfl, rfl, rfl, rfl, by decide +kernel⟩ ?hw ?hc
  case hw => w_witness2
  case hc =>
    refine VI.walk_K (l := PySem.Challenge.rw_kindsworn_k69_collections_by_shapes) (n := 63) (k := VI.fuel + 1) (x := "script") (g := VI.callN (VI.fuel + 1) 21) rfl (by decide) (by kernel_rfl) ⟨rfl, by decide, by decide⟩ ?F good
    intro w mg fa h Y G hmg0
    obtain ⟨K, KX, S, e⟩ := Y
    have hmg : mg ("law" : PySem.Str) = some (.ref fa) := by
      have e : (HandSHeadRun.topDef (OpenLaw.row PySem.Challenge.rw_kindsworn_k69_collections_by_shapes).prog 23).name = ("law" : PySem.Str) := by kernel_rfl
      rw [← e]
      exact hmg0
    have F : VI.Facts (PySem.Challenge.rw_kindsworn_k69_collections_by_shapes).prog w K mg (VI.ctK K) := VI.facts KX G S e
    obtain ⟨fd, hb, hF⟩ := VI.law_of (n := VI.fuel) (P := (PySem.Challenge.rw_kindsworn_k69_collections_by_shapes).prog) (w := w) (g := VI.callN (VI.fuel + 1) 21) F.a21 VI.bn21 hmg VI.sc21 (fun _ _ => rfl) fun base _ _ _ _ _ _ _ r gd => VI.d21 (VI.tab_all (base := base) F VI.fuel) r gd
    exact ⟨K, VI.ctK K, fd, KX, hb, fun base _ _ => hF base⟩
open PySem PySem.W PyProof.Rows
set_option Elab.async false
set_option maxRecDepth 100000 in
set_option maxHeartbeats 0 in
theorem PySem.Challenge.cw_kindsworn_k69_collections_by_shapes_holds : PySem.Challenge.rw_kindsworn_k69_collections_by_shapes.Holds := by
  exact holds_of fun ns h _ => VI.Q9.law_ok 33 h
