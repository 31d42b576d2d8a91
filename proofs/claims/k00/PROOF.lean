import PyProof.Rows.All
import Wide.All
import OpenK.AllK
import Wide.FinOn
import HandS.ForMost
import HandS.ExcInit
import HandS.ExcIs
import HandS.IsInst
import HandS.HeadHook1
import HandS.TupAny
import HandS.Wide
import HandS.Zip
import KE.GoesNew
import KE.GoesMore
import HandS.Comp
import HandS.More
import HandS.Style
import HandS.HeadEnd
import HandS.EndBits
import HandS.Defaults
import HandS.Head0
import HandS.Head1
import HandS.Head2
import HandS.HeadHook2
import HandS.Text
import HandS.ExcOwn
import HandS.WordsExc
import HandS.TryMany
import HandS.ExcField
import PyProof.ExcReprCall
import HandS.Dict
import PyProof.TupleOfStr
import PyProof.StrBlock2
import HandS.RaiseMore
import HandS.TupMul
import HandS.SortOrd
import HandS.NamedTupSort
import KE.KSortAsk
import HandS.Conv
import HandS.SortInts
import HandS.DictComp
import KE.KEqNest
import HandS.Codes
import PySem.Challenge.RW_kindsworn_k00_errors_numbers_and_names
set_option Elab.async false
set_option linter.all false
set_option maxRecDepth 100000
namespace VI
open PySem PySem.Spec PyProof.Rows L2

/-! values: pure data; a live list or dict of the store; a tuple that holds live ones -/
inductive W where
  | d (x : PyData)
  | loc (l : Nat)
  | tp (xs : List W)
  | fro (xs : List PyData)
  | lw (xs : List W)
  | er (nm : Str) (ns : List Str) (xs : List W)
/-- a live object -/
inductive SO where
  | lst (xs : List PyData)
  | dK (kvs : List (Key × PyData))
  | dT (kvs : List (List Key × PyData))
  | ob (nm : Str) (fs : List (Str × W))
  | lw (xs : List W)
mutual
/-- every live one in it stands below n -/
def locsB (n : Nat) : W → Bool
  | .d _ => true
  | .fro _ => true
  | .loc l => decide (l < n)
  | .tp ws => locsBs n ws
  | .lw ws => locsBs n ws
  | .er _ _ ws => locsBs n ws
def locsBs (n : Nat) : List W → Bool
  | [] => true
  | w :: ws => locsB n w && locsBs n ws
end
def WfO (l : Nat) : SO → Prop
  | .ob _ fs => locsBs l (fs.map (·.2)) = true
  | .lw ws => locsBs l ws = true
  | _ => True
abbrev Store := List SO
abbrev Rho := List (Option W)
inductive R (α : Type) where
  | ok (a : α) (S : Store)
  | exc (c : Nat) (fs : List (Str × W)) (S : Store)
  | bad
def R.bind {α β : Type} (r : R α) (k : α → Store → R β) : R β :=
  match r with
  | .ok a S => k a S
  | .exc c fs S => .exc c fs S
  | .bad => .bad
abbrev O := Option (W × Store)
def lift (o : O) : R W :=
  match o with
  | some (w, S) => .ok w S
  | none => .bad

/-! what stands for what -/
/-- a list that is only read: frozen, or one of the module -/
def SqF (K : PySem.W.Frag) (H : Hp) (a : Addr) (xs : List V) : Prop :=
  (∃ o, H a = some (.frz o (.lst xs))) ∨
    ∃ (o : Obj) (its : Array Value) (n : Nat), K.lookup a = some o ∧ o.cls = .type "list" ∧ o.dict = none ∧ o.data = .seq its n ∧ its.size ≤ sizeLine ∧ Vals xs its.toList
theorem SqF.seq {K : PySem.W.Frag} {H : Hp} {a : Addr} {xs : List V} (h : SqF K H a xs) : SqL K H a xs := by
  rcases h with ⟨o, h⟩ | h
  · exact .inl (.inr ⟨o, h⟩)
  · exact .inr h
def tys : List String := ["NoneType", "bool", "int", "str", "list", "tuple", "dict"]
/-- a class of the module's own over the exceptions, no built-in type being above it but these -/
structure OwnT (K : PySem.W.Frag) (C : Addr) : Prop where
  exc : L2.ExcC K C
  not : ∀ T ∈ tys, PySem.W.kitOne K (.ref C) (.type T) = some false
/-- an own exception whose arguments are kept: its tuple at t1 -/
def exoT (e C : Addr) (d : Option Addr) (t1 : Addr) : HO := .ext fun h => h.get? e = some ⟨.ref C, d, .fields #[.ref t1, .none, .none, .none, .bool false, .none], #[]⟩
/-- what is asked of its class -/
structure OwnE (K : PySem.W.Frag) (C : Addr) (nm : Str) : Prop where
  ot : OwnT K C
  rep : PySem.W.findIn K (.ref C) "__repr__" = some (some (.builtin "BaseException.__repr__"))
  name : ∃ cd, PySem.W.clsIn K C = some cd ∧ Str.ofString ((cd.name.toString.cutAt '.').getLastD "") = nm
  short : nm.length ≤ 1000
def keyD : Key → PyData
  | .inl i => .int i
  | .inr x => .str x
mutual
inductive RepD (K : PySem.W.Frag) (η : List Addr) (H : Hp) : PyData → V → Prop
  | none : RepD K η H .none .non
  | bool (b : Bool) : RepD K η H (.bool b) (.bl b)
  | int (i : Int) : RepD K η H (.int i) (.int i)
  | str (x : Str) : RepD K η H (.str x) (.str x)
  | list {a : Addr} {vs : List V} {ds : List PyData} : H a = some (.lst vs) → a ∉ η → RepDs K η H ds vs → RepD K η H (.list ds) (.ref a)
  | tuple {a : Addr} {vs : List V} {ds : List PyData} : SqT K H a vs → RepDs K η H ds vs → RepD K η H (.tuple ds) (.ref a)
  | dct {a : Addr} {kvs : List (Key × V)} : H a = some (.dK kvs) → a ∉ η → RepD K η H (.dict []) (.ref a)
  | own {a C : Addr} : H a = some (exo a C none) → a ∉ η → OwnT K C → RepD K η H (.dict [(.none, .none)]) (.ref a)
  | dctE {a : Addr} {ps : List (PyData × PyData)} {vs : List (Key × V)} : H a = some (.dK vs) → a ∉ η → ps.map (·.1) = vs.map (fun p => keyD p.1) → RepDs K η H (ps.map (·.2)) (vs.map (·.2)) → RepD K η H (.dict ((.bool true, .none) :: ps)) (.ref a)
  | ownE {a C t1 dx : Addr} {nm f : Str} {i : Int} : H a = some (exoT a C (some dx) t1) → H t1 = some (.tup [.int i]) → H dx = some (exd dx [(f, .int i)]) → a ∉ η → dx ∉ η → OwnE K C nm → RepD K η H (.dict [(.bool false, .str nm), (.none, .int i)]) (.ref a)
inductive RepDs (K : PySem.W.Frag) (η : List Addr) (H : Hp) : List PyData → List V → Prop
  | nil : RepDs K η H [] []
  | cons {d : PyData} {ds : List PyData} {v : V} {vs : List V} : RepD K η H d v → RepDs K η H ds vs → RepDs K η H (d :: ds) (v :: vs)
end
mutual
inductive RepW (K : PySem.W.Frag) (η : List Addr) (H : Hp) : W → V → Prop
  | d {x : PyData} {v : V} : RepD K η H x v → RepW K η H (.d x) v
  | loc {l : Nat} {a : Addr} : η[l]? = some a → RepW K η H (.loc l) (.ref a)
  | tp {a : Addr} {vs : List V} {ws : List W} : SqT K H a vs → RepWs K η H ws vs → RepW K η H (.tp ws) (.ref a)
  | fro {a : Addr} {vs : List V} {ds : List PyData} : SqF K H a vs → RepDs K η H ds vs → RepW K η H (.fro ds) (.ref a)
  | lw {a : Addr} {vs : List V} {ws : List W} : H a = some (.lst vs) → a ∉ η → RepWs K η H ws vs → RepW K η H (.lw ws) (.ref a)
  | er {a C dx : Addr} {nm : Str} {ns : List Str} {vs : List V} {ws : List W} : H a = some (exo a C (some dx)) → H dx = some (exd dx (ns.zip vs).reverse) → a ∉ η → dx ∉ η → C = He.ga K nm → RepWs K η H ws vs → RepW K η H (.er nm ns ws) (.ref a)
  | er0 {a C : Addr} {nm : Str} : H a = some (exo a C none) → a ∉ η → C = He.ga K nm → RepW K η H (.er nm [] []) (.ref a)
inductive RepWs (K : PySem.W.Frag) (η : List Addr) (H : Hp) : List W → List V → Prop
  | nil : RepWs K η H [] []
  | cons {w : W} {ws : List W} {v : V} {vs : List V} : RepW K η H w v → RepWs K η H ws vs → RepWs K η H (w :: ws) (v :: vs)
end
/-- no instance of an own class -/
def NotIns : HO → Prop
  | .ins _ _ _ => False
  | _ => True
/-- what comes later: more live objects, and nothing but live ones changed -/
structure Fu (η : List Addr) (H : Hp) (η' : List Addr) (H' : Hp) : Prop where
  px : ∃ r, η' = η ++ r
  nw : ∀ a ∈ η', a ∈ η ∨ H a = none
  tk : ∀ a, H' a = none → H a = none
  tp : ∀ a xs, H a = some (.tup xs) → H' a = some (.tup xs)
  fz : ∀ a o u, H a = some (.frz o u) → H' a = some (.frz o u)
  ls : ∀ a o, a ∉ η → H a = some o → H' a = some o
theorem Fu.refl (η : List Addr) (H : Hp) : Fu η H η H := ⟨⟨[], by simp⟩, fun a h => .inl h, fun _ h => h, fun _ _ h => h, fun _ _ _ h => h, fun _ _ _ h => h⟩
/-- .. and instances that are not live -/
structure Fw (η : List Addr) (H : Hp) (η' : List Addr) (H' : Hp) : Prop where
  px : ∃ r, η' = η ++ r
  nw : ∀ a ∈ η', a ∈ η ∨ ∀ o, NotIns o → H a ≠ some o
  tp : ∀ a xs, H a = some (.tup xs) → H' a = some (.tup xs)
  fz : ∀ a o u, H a = some (.frz o u) → H' a = some (.frz o u)
  ls : ∀ a o, a ∉ η → NotIns o → H a = some o → H' a = some o
theorem Fu.w {η : List Addr} {H : Hp} {η' : List Addr} {H' : Hp} (f : Fu η H η' H') : Fw η H η' H' := ⟨f.px, fun a m => (f.nw a m).imp id (fun z o _ e => by rw [z] at e; cases e), f.tp, f.fz, fun a o n _ h => f.ls a o n h⟩
section
variable {K : PySem.W.Frag} {η η' η2 : List Addr} {H H' H2 : Hp}
theorem Fu.out (f : Fu η H η' H') {a : Addr} {o : HO} (h : a ∉ η) (e : H a = some o) : a ∉ η' := fun m => by
  rcases f.nw a m with z | z
  · exact h z
  · rw [z] at e; cases e
theorem Fu.trans (f : Fu η H η' H') (g : Fu η' H' η2 H2) : Fu η H η2 H2 := by
  obtain ⟨r, e⟩ := f.px
  obtain ⟨r2, e2⟩ := g.px
  refine ⟨⟨r ++ r2, by rw [e2, e, List.append_assoc]⟩, fun a m => ?_, fun a h => f.tk a (g.tk a h), fun a xs h => g.tp a xs (f.tp a xs h), fun a o u h => g.fz a o u (f.fz a o u h), fun a xs n h => g.ls a xs (f.out n h) (f.ls a xs n h)⟩
  rcases g.nw a m with z | z
  · exact f.nw a z
  · exact .inr (f.tk a z)
theorem Fu.get (f : Fu η H η' H') {l : Nat} {a : Addr} (h : η[l]? = some a) : η'[l]? = some a := by
  obtain ⟨r, e⟩ := f.px
  rw [e, List.getElem?_append_left (List.getElem?_eq_some_iff.mp h).1]
  exact h
theorem Fw.out (f : Fw η H η' H') {a : Addr} {o : HO} (h : a ∉ η) (e : H a = some o) (i : NotIns o) : a ∉ η' := fun m => by
  rcases f.nw a m with z | z
  · exact h z
  · exact z o i e
theorem Fw.get (f : Fw η H η' H') {l : Nat} {a : Addr} (h : η[l]? = some a) : η'[l]? = some a := by
  obtain ⟨r, e⟩ := f.px
  rw [e, List.getElem?_append_left (List.getElem?_eq_some_iff.mp h).1]
  exact h
theorem SqT.fw (f : Fw η H η' H') {a : Addr} {xs : List V} (h : SqT K H a xs) : SqT K H' a xs := by
  rcases h with (h | ⟨o, h⟩) | h
  · exact .inl (.inl (f.tp _ _ h))
  · exact .inl (.inr ⟨o, f.fz _ _ _ h⟩)
  · exact .inr h
theorem SqF.fw (f : Fw η H η' H') {a : Addr} {xs : List V} (h : SqF K H a xs) : SqF K H' a xs := by
  rcases h with ⟨o, h⟩ | h
  · exact .inl ⟨o, f.fz _ _ _ h⟩
  · exact .inr h
mutual
theorem RepD.fw (f : Fw η H η' H') : ∀ {x : PyData} {v : V}, RepD K η H x v → RepD K η' H' x v
  | _, _, .none => .none
  | _, _, .bool _ => .bool _
  | _, _, .int _ => .int _
  | _, _, .str _ => .str _
  | _, _, .list h1 h3 h2 => .list (f.ls _ _ h3 True.intro h1) (f.out h3 h1 True.intro) (RepDs.fw f h2)
  | _, _, .tuple h1 h2 => .tuple (SqT.fw f h1) (RepDs.fw f h2)
  | _, _, .dct h1 h2 => .dct (f.ls _ _ h2 True.intro h1) (f.out h2 h1 True.intro)
  | _, _, .own h1 h2 h3 => .own (f.ls _ _ h2 True.intro h1) (f.out h2 h1 True.intro) h3
  | _, _, .dctE h1 h2 h3 h4 => .dctE (f.ls _ _ h2 True.intro h1) (f.out h2 h1 True.intro) h3 (RepDs.fw f h4)
  | _, _, .ownE h1 h2 h3 h4 h5 h6 => .ownE (f.ls _ _ h4 True.intro h1) (f.tp _ _ h2) (f.ls _ _ h5 True.intro h3) (f.out h4 h1 True.intro) (f.out h5 h3 True.intro) h6
theorem RepDs.fw (f : Fw η H η' H') : ∀ {xs : List PyData} {vs : List V}, RepDs K η H xs vs → RepDs K η' H' xs vs
  | _, _, .nil => .nil
  | _, _, .cons h1 h2 => .cons (RepD.fw f h1) (RepDs.fw f h2)
end
theorem SqT.fu (f : Fu η H η' H') {a : Addr} {xs : List V} (h : SqT K H a xs) : SqT K H' a xs := SqT.fw f.w h
theorem SqF.fu (f : Fu η H η' H') {a : Addr} {xs : List V} (h : SqF K H a xs) : SqF K H' a xs := SqF.fw f.w h
theorem RepD.fu (f : Fu η H η' H') (x : PyData) (v : V) (h : RepD K η H x v) : RepD K η' H' x v := RepD.fw f.w h
theorem RepDs.fu (f : Fu η H η' H') (x : List PyData) (v : List V) (h : RepDs K η H x v) : RepDs K η' H' x v := RepDs.fw f.w h
mutual
theorem RepW.fw (f : Fw η H η' H') : ∀ {x : W} {v : V}, RepW K η H x v → RepW K η' H' x v
  | _, _, .d h => .d (RepD.fw f h)
  | _, _, .loc h => .loc (f.get h)
  | _, _, .tp h1 h2 => .tp (SqT.fw f h1) (RepWs.fw f h2)
  | _, _, .fro h1 h2 => .fro (SqF.fw f h1) (RepDs.fw f h2)
  | _, _, .lw h1 h2 h3 => .lw (f.ls _ _ h2 True.intro h1) (f.out h2 h1 True.intro) (RepWs.fw f h3)
  | _, _, .er h1 h2 h3 h4 h5 h6 => .er (f.ls _ _ h3 True.intro h1) (f.ls _ _ h4 True.intro h2) (f.out h3 h1 True.intro) (f.out h4 h2 True.intro) h5 (RepWs.fw f h6)
  | _, _, .er0 h1 h2 h3 => .er0 (f.ls _ _ h2 True.intro h1) (f.out h2 h1 True.intro) h3
theorem RepWs.fw (f : Fw η H η' H') : ∀ {xs : List W} {vs : List V}, RepWs K η H xs vs → RepWs K η' H' xs vs
  | _, _, .nil => .nil
  | _, _, .cons h1 h2 => .cons (RepW.fw f h1) (RepWs.fw f h2)
end
theorem RepW.fu (f : Fu η H η' H') (x : W) (v : V) (h : RepW K η H x v) : RepW K η' H' x v := RepW.fw f.w h
theorem RepWs.fu (f : Fu η H η' H') (x : List W) (v : List V) (h : RepWs K η H x v) : RepWs K η' H' x v := RepWs.fw f.w h
theorem RepWs.length : ∀ {ws : List W} {vs : List V}, RepWs K η H ws vs → ws.length = vs.length
  | [], _, h => by cases h; rfl
  | w :: ws, _, h => by cases h with | cons _ h2 => rw [List.length_cons, List.length_cons, RepWs.length h2]
theorem RepDs.length : ∀ {ws : List PyData} {vs : List V}, RepDs K η H ws vs → ws.length = vs.length
  | [], _, h => by cases h; rfl
  | w :: ws, _, h => by cases h with | cons _ h2 => rw [List.length_cons, List.length_cons, RepDs.length h2]
theorem RepDs.get : ∀ {ws : List PyData} {vs : List V} {i : Nat} {w : PyData}, RepDs K η H ws vs → ws[i]? = some w → ∃ v, vs[i]? = some v ∧ RepD K η H w v
  | [], _, _, _, _, e => by simp at e
  | x :: xs, _, 0, w, h, e => by
    cases h with
    | cons h1 h2 =>
      simp at e
      subst e
      exact ⟨_, rfl, h1⟩
  | x :: xs, _, i + 1, w, h, e => by
    cases h with
    | cons h1 h2 =>
      obtain ⟨v, e1, e2⟩ := RepDs.get (i := i) (w := w) h2 (by simpa using e)
      exact ⟨v, by simpa using e1, e2⟩
theorem RepWs.get : ∀ {ws : List W} {vs : List V} {i : Nat} {w : W}, RepWs K η H ws vs → ws[i]? = some w → ∃ v, vs[i]? = some v ∧ RepW K η H w v
  | [], _, _, _, _, e => by simp at e
  | x :: xs, _, 0, w, h, e => by
    cases h with
    | cons h1 h2 =>
      simp at e
      subst e
      exact ⟨_, rfl, h1⟩
  | x :: xs, _, i + 1, w, h, e => by
    cases h with
    | cons h1 h2 =>
      obtain ⟨v, e1, e2⟩ := RepWs.get (i := i) (w := w) h2 (by simpa using e)
      exact ⟨v, by simpa using e1, e2⟩
theorem RepWs.append : ∀ {ws ws' : List W} {vs vs' : List V}, RepWs K η H ws vs → RepWs K η H ws' vs' → RepWs K η H (ws ++ ws') (vs ++ vs')
  | [], _, _, _, h, h' => by cases h; exact h'
  | w :: ws, _, _, _, h, h' => by cases h with | cons h1 h2 => exact .cons h1 (RepWs.append h2 h')
theorem RepDs.append : ∀ {ws ws' : List PyData} {vs vs' : List V}, RepDs K η H ws vs → RepDs K η H ws' vs' → RepDs K η H (ws ++ ws') (vs ++ vs')
  | [], _, _, _, h, h' => by cases h; exact h'
  | w :: ws, _, _, _, h, h' => by cases h with | cons h1 h2 => exact .cons h1 (RepDs.append h2 h')
theorem RepDs.take : ∀ {ws : List PyData} {vs : List V} (n : Nat), RepDs K η H ws vs → RepDs K η H (ws.take n) (vs.take n)
  | _, _, 0, _ => by simp only [List.take_zero]; exact .nil
  | [], _, _ + 1, h => by cases h; exact .nil
  | w :: ws, _, n + 1, h => by cases h with | cons h1 h2 => exact .cons h1 (RepDs.take n h2)
theorem RepDs.drop : ∀ {ws : List PyData} {vs : List V} (n : Nat), RepDs K η H ws vs → RepDs K η H (ws.drop n) (vs.drop n)
  | _, _, 0, h => h
  | [], _, _ + 1, h => by cases h; exact .nil
  | w :: ws, _, n + 1, h => by cases h with | cons h1 h2 => exact RepDs.drop n h2
theorem RepWs.take : ∀ {ws : List W} {vs : List V} (n : Nat), RepWs K η H ws vs → RepWs K η H (ws.take n) (vs.take n)
  | _, _, 0, _ => by simp only [List.take_zero]; exact .nil
  | [], _, _ + 1, h => by cases h; exact .nil
  | w :: ws, _, n + 1, h => by cases h with | cons h1 h2 => exact .cons h1 (RepWs.take n h2)
theorem RepWs.drop : ∀ {ws : List W} {vs : List V} (n : Nat), RepWs K η H ws vs → RepWs K η H (ws.drop n) (vs.drop n)
  | _, _, 0, h => h
  | [], _, _ + 1, h => by cases h; exact .nil
  | w :: ws, _, n + 1, h => by cases h with | cons h1 h2 => exact RepWs.drop n h2
theorem RepWs.set {w : W} {v : V} (r : RepW K η H w v) : ∀ {ws : List W} {vs : List V} (n : Nat), RepWs K η H ws vs → RepWs K η H (ws.set n w) (vs.set n v)
  | [], _, n, h => by cases h; exact .nil
  | x :: ws, _, 0, h => by cases h with | cons h1 h2 => exact .cons r h2
  | x :: ws, _, n + 1, h => by cases h with | cons h1 h2 => exact .cons h1 (RepWs.set r n h2)
theorem RepDs.set {w : PyData} {v : V} (r : RepD K η H w v) : ∀ {ws : List PyData} {vs : List V} (n : Nat), RepDs K η H ws vs → RepDs K η H (ws.set n w) (vs.set n v)
  | [], _, n, h => by cases h; exact .nil
  | x :: ws, _, 0, h => by cases h with | cons h1 h2 => exact .cons r h2
  | x :: ws, _, n + 1, h => by cases h with | cons h1 h2 => exact .cons h1 (RepDs.set r n h2)
theorem RepDs.eraseIdx : ∀ {ws : List PyData} {vs : List V} (n : Nat), RepDs K η H ws vs → RepDs K η H (ws.eraseIdx n) (vs.eraseIdx n)
  | [], _, n, h => by cases h; exact .nil
  | x :: ws, _, 0, h => by cases h with | cons h1 h2 => exact h2
  | x :: ws, _, n + 1, h => by cases h with | cons h1 h2 => exact .cons h1 (RepDs.eraseIdx n h2)
theorem RepDs.dropLast {ws : List PyData} {vs : List V} (h : RepDs K η H ws vs) : RepDs K η H ws.dropLast vs.dropLast := by
  rw [List.dropLast_eq_take, List.dropLast_eq_take, h.length]
  exact h.take _
theorem RepDs.reverse : ∀ {ws : List PyData} {vs : List V}, RepDs K η H ws vs → RepDs K η H ws.reverse vs.reverse
  | [], _, h => by cases h; exact .nil
  | x :: ws, _, h => by
    cases h with
    | cons h1 h2 =>
      rw [List.reverse_cons, List.reverse_cons]
      exact (RepDs.reverse h2).append (.cons h1 .nil)
theorem RepWs.ofD : ∀ {ds : List PyData} {vs : List V}, RepDs K η H ds vs → RepWs K η H (ds.map W.d) vs
  | [], _, h => by cases h; exact .nil
  | x :: xs, _, h => by cases h with | cons h1 h2 => exact .cons (.d h1) (RepWs.ofD h2)
/-- all are pure data -/
def datas : List W → Option (List PyData)
  | [] => some []
  | .d x :: r => (datas r).map (x :: ·)
  | _ :: _ => none
theorem datas_ok : ∀ {ws : List W} {ds : List PyData} {vs : List V}, datas ws = some ds → RepWs K η H ws vs → RepDs K η H ds vs
  | [], ds, vs, e, h => by cases e; cases h; exact .nil
  | .d x :: r, ds, vs, e, h => by
    cases h with
    | cons h1 h2 =>
      cases h1 with
      | d h1 =>
        cases q : datas r with
        | none => rw [datas, q] at e; cases e
        | some ds' =>
          rw [datas, q] at e
          cases e
          exact .cons h1 (datas_ok q h2)
  | .loc _ :: _, ds, vs, e, h => by cases e
  | .tp _ :: _, ds, vs, e, h => by cases e
  | .fro _ :: _, ds, vs, e, h => by cases e
  | .lw _ :: _, ds, vs, e, h => by cases e
  | .er _ _ _ :: _, ds, vs, e, h => by cases e
theorem datas_map : ∀ ds : List PyData, datas (ds.map W.d) = some ds
  | [] => rfl
  | x :: xs => by rw [List.map_cons, datas, datas_map xs]; rfl
end

/-! the store -/
def ORep (K : PySem.W.Frag) (η : List Addr) (H : Hp) (a : Addr) : SO → Prop
  | .lst ws => ∃ vs, H a = some (.lst vs) ∧ RepDs K η H ws vs
  | .dK kvs => ∃ vs, H a = some (.dK vs) ∧ kvs.map (·.1) = vs.map (·.1) ∧ RepDs K η H (kvs.map (·.2)) (vs.map (·.2))
  | .dT kvs => ∃ vs, H a = some (.dT vs) ∧ kvs.map (·.1) = vs.map (·.1) ∧ RepDs K η H (kvs.map (·.2)) (vs.map (·.2))
  | .ob nm fs => ∃ dx vs, H a = some (.ins (He.ga K nm) dx vs) ∧ fs.map (·.1) = vs.map (·.1) ∧ RepWs K η H (fs.map (·.2)) (vs.map (·.2))
  | .lw ws => ∃ vs, H a = some (.lst vs) ∧ RepWs K η H ws vs
theorem ORep.there {K : PySem.W.Frag} {η : List Addr} {H : Hp} {a : Addr} : ∀ {o : SO}, ORep K η H a o → ∃ u, H a = some u ∧ Mut (some u)
  | .lst _, ⟨_, h, _⟩ => ⟨_, h, trivial⟩
  | .dK _, ⟨_, h, _⟩ => ⟨_, h, trivial⟩
  | .dT _, ⟨_, h, _⟩ => ⟨_, h, trivial⟩
  | .ob _ _, ⟨_, _, h, _⟩ => ⟨_, h, trivial⟩
  | .lw _, ⟨_, h, _⟩ => ⟨_, h, trivial⟩
structure Rp (K : PySem.W.Frag) (η : List Addr) (H : Hp) (S : Store) : Prop where
  len : η.length = S.length
  nd : η.Nodup
  all : ∀ (l : Nat) (a : Addr) (o : SO), η[l]? = some a → S[l]? = some o → ORep K η H a o
  wf : ∀ (l : Nat) (o : SO), S[l]? = some o → WfO l o
section
variable {K : PySem.W.Frag} {η η' : List Addr} {H H' : Hp} {S S' : Store}
theorem Rp.there (r : Rp K η H S) {a : Addr} (m : a ∈ η) : ∃ u, H a = some u ∧ Mut (some u) := by
  obtain ⟨l, hl, e⟩ := List.getElem_of_mem m
  have hs : l < S.length := by rw [← r.len]; exact hl
  exact (r.all l a S[l] (by rw [List.getElem?_eq_getElem hl, e]) (List.getElem?_eq_getElem hs)).there
theorem Rp.addr (r : Rp K η H S) {l : Nat} {o : SO} (h : S[l]? = some o) : ∃ a, η[l]? = some a ∧ ORep K η H a o := by
  have hl : l < η.length := by rw [r.len]; exact (List.getElem?_eq_some_iff.mp h).1
  exact ⟨_, List.getElem?_eq_getElem hl, r.all _ _ _ (List.getElem?_eq_getElem hl) h⟩
/-- a new object that is not live -/
theorem fu_new {p : Addr} {o : HO} (hp : H p = none) : Fu η H η (upd H p o) :=
  ⟨⟨[], by simp⟩, fun a h => .inl h, fun a h => by
    by_cases e : a = p
    · subst e; exact hp
    · rw [upd_ne e] at h; exact h, fun a xs h => by rw [upd_ne (ne_of_none h hp)]; exact h, fun a o u h => by rw [upd_ne (ne_of_none h hp)]; exact h, fun a xs _ h => by rw [upd_ne (ne_of_none h hp)]; exact h⟩
theorem ORep.fw (f : Fw η H η' H') {a : Addr} (hk : ∀ u, H a = some u → H' a = some u) : ∀ {o : SO}, ORep K η H a o → ORep K η' H' a o
  | .lst _, ⟨vs, h, r⟩ => ⟨vs, hk _ h, RepDs.fw f r⟩
  | .dK _, ⟨vs, h, e, r⟩ => ⟨vs, hk _ h, e, RepDs.fw f r⟩
  | .dT _, ⟨vs, h, e, r⟩ => ⟨vs, hk _ h, e, RepDs.fw f r⟩
  | .ob _ _, ⟨dx, vs, h, e, r⟩ => ⟨dx, vs, hk _ h, e, RepWs.fw f r⟩
  | .lw _, ⟨vs, h, r⟩ => ⟨vs, hk _ h, RepWs.fw f r⟩
theorem ORep.fu (f : Fu η H η' H') {a : Addr} (hk : ∀ u, H a = some u → H' a = some u) {o : SO} (h : ORep K η H a o) : ORep K η' H' a o := ORep.fw f.w hk h
theorem Rp.new (r : Rp K η H S) {p : Addr} {o : HO} (hp : H p = none) : Rp K η (upd H p o) S :=
  ⟨r.len, r.nd, fun l a so h1 h2 => (r.all l a so h1 h2).fu (fu_new hp) fun u e => by rw [upd_ne (ne_of_none e hp)]; exact e, r.wf⟩
theorem Rp.notin (r : Rp K η H S) {p : Addr} (hp : H p = none) : p ∉ η := fun m => by
  obtain ⟨u, e, _⟩ := r.there m
  rw [hp] at e; cases e
/-- a new live object -/
theorem fu_live {p : Addr} {o : HO} (hp : H p = none) : Fu η H (η ++ [p]) (upd H p o) := by
  have f : Fu η H η (upd H p o) := fu_new hp
  refine ⟨⟨[p], rfl⟩, fun a h => ?_, f.tk, f.tp, f.fz, f.ls⟩
  rcases List.mem_append.mp h with h | h
  · exact .inl h
  · exact .inr (by rw [List.mem_singleton.mp h]; exact hp)
theorem Rp.live (r : Rp K η H S) {p : Addr} {o : HO} {so : SO} (hp : H p = none) (hn : ORep K (η ++ [p]) (upd H p o) p so) (hw : WfO S.length so := by exact True.intro) : Rp K (η ++ [p]) (upd H p o) (S ++ [so]) := by
  refine ⟨by rw [List.length_append, List.length_append, r.len]; rfl, ?_, fun l a so' h1 h2 => ?_, fun l so' h2 => ?_⟩
  · refine List.nodup_append.mpr ⟨r.nd, by simp, fun a ha b hb => ?_⟩
    rw [List.mem_singleton.mp hb]
    exact fun e => r.notin hp (e ▸ ha)
  · by_cases hl : l < S.length
    · rw [List.getElem?_append_left (by rw [r.len]; exact hl)] at h1
      rw [List.getElem?_append_left hl] at h2
      exact (r.all l a so' h1 h2).fu (fu_live hp) fun u e => by rw [upd_ne (ne_of_none e hp)]; exact e
    · have e : l = S.length := by
        have := (List.getElem?_eq_some_iff.mp h2).1
        rw [List.length_append] at this
        simp at this
        omega
      subst e
      rw [List.getElem?_append_right (by rw [r.len]; exact Nat.le_refl _), r.len] at h1
      rw [List.getElem?_append_right (Nat.le_refl _)] at h2
      simp at h1 h2
      subst h1 h2
      exact hn
  · by_cases hl : l < S.length
    · rw [List.getElem?_append_left hl] at h2
      exact r.wf l so' h2
    · have e : l = S.length := by
        have := (List.getElem?_eq_some_iff.mp h2).1
        rw [List.length_append] at this
        simp at this
        omega
      subst e
      rw [List.getElem?_append_right (Nat.le_refl _)] at h2
      simp at h2
      subst h2
      exact hw
/-- a live object is written -/
theorem fu_write {a : Addr} {u o : HO} (m : a ∈ η) (h : H a = some u) (mu : Mut (some u)) : Fu η H η (upd H a o) := by
  refine ⟨⟨[], by simp⟩, fun a h => .inl h, fun b q => ?_, fun b xs q => ?_, fun b ob v q => ?_, fun b xs n q => ?_⟩
  · by_cases e : b = a
    · subst e; rw [upd_same] at q; cases q
    · rw [upd_ne e] at q; exact q
  · rw [upd_ne]
    · exact q
    · rintro rfl; rw [h] at q; cases q; exact mu.elim
  · rw [upd_ne]
    · exact q
    · rintro rfl; rw [h] at q; cases q; exact mu.elim
  · rw [upd_ne]
    · exact q
    · rintro rfl; exact n m
theorem nodup_get {l l' : Nat} {a : Addr} (nd : η.Nodup) (h : η[l]? = some a) (h' : η[l']? = some a) : l = l' := by
  obtain ⟨h1, e1⟩ := List.getElem?_eq_some_iff.mp h
  obtain ⟨h2, e2⟩ := List.getElem?_eq_some_iff.mp h'
  exact (List.getElem_inj nd).mp (e1.trans e2.symm)
theorem Rp.write (r : Rp K η H S) {l : Nat} {a : Addr} {o : HO} {so : SO} (h : η[l]? = some a) (hn : ORep K η (upd H a o) a so) (hw : WfO l so := by exact True.intro) : Rp K η (upd H a o) (S.set l so) := by
  have m : a ∈ η := List.mem_of_getElem? h
  obtain ⟨u, hu, mu⟩ := r.there m
  have wf : ∀ (l' : Nat) (o : SO), (S.set l so)[l']? = some o → WfO l' o := fun l' o h2 => by
    by_cases e : l' = l
    · subst e
      have hl : l' < S.length := by
        have := (List.getElem?_eq_some_iff.mp h2).1
        rw [List.length_set] at this
        exact this
      rw [List.getElem?_set_self hl] at h2
      cases h2
      exact hw
    · rw [List.getElem?_set_ne (Ne.symm e)] at h2
      exact r.wf l' o h2
  refine ⟨by rw [List.length_set]; exact r.len, r.nd, fun l' b so' h1 h2 => ?_, wf⟩
  by_cases e : l' = l
  · subst e
    rw [h] at h1
    cases h1
    have hl : l' < S.length := by
      have := (List.getElem?_eq_some_iff.mp h2).1
      rw [List.length_set] at this
      exact this
    rw [List.getElem?_set_self hl] at h2
    cases h2
    exact hn
  · rw [List.getElem?_set_ne (Ne.symm e)] at h2
    refine (r.all l' b so' h1 h2).fu (fu_write m hu mu) fun v q => ?_
    rw [upd_ne]
    · exact q
    · rintro rfl; exact e (nodup_get r.nd h1 h)
end

/-! slots -/
def ERep (K : PySem.W.Frag) (η : List Addr) (H : Hp) (ρ : Rho) (σ : L2.St) : Prop :=
  σ.length = ρ.length ∧ ∀ (i : Nat) (w : W), ρ[i]? = some (some w) → ∃ v, σ[i]? = some (some v) ∧ RepW K η H w v
section
variable {K : PySem.W.Frag} {η η' : List Addr} {H H' : Hp} {S S' : Store} {ρ : Rho} {σ : L2.St}
theorem ERep.fw (f : Fw η H η' H') (e : ERep K η H ρ σ) : ERep K η' H' ρ σ := ⟨e.1, fun i w h => by
  obtain ⟨v, h1, h2⟩ := e.2 i w h
  exact ⟨v, h1, RepW.fw f h2⟩⟩
theorem ERep.fu (f : Fu η H η' H') (e : ERep K η H ρ σ) : ERep K η' H' ρ σ := ERep.fw f.w e
theorem ERep.set (e : ERep K η H ρ σ) {i : Nat} {w : W} {v : V} (r : RepW K η H w v) : ERep K η H (ρ.set i (some w)) (σ.set i (some v)) := by
  refine ⟨by rw [List.length_set, List.length_set]; exact e.1, fun j w' h => ?_⟩
  by_cases hj : j = i
  · subst hj
    have hl : j < ρ.length := by
      have := (List.getElem?_eq_some_iff.mp h).1
      rw [List.length_set] at this
      exact this
    rw [List.getElem?_set_self hl] at h
    cases h
    exact ⟨v, List.getElem?_set_self (by rw [e.1]; exact hl), r⟩
  · rw [List.getElem?_set_ne (Ne.symm hj)] at h
    rw [List.getElem?_set_ne (Ne.symm hj)]
    exact e.2 j w' h
end

/-! the ends -/
structure Gc where
  K : PySem.W.Frag
  ct : Nat → Option Addr
abbrev RepF (K : PySem.W.Frag) (η : List Addr) (H : Hp) (fs : List (Str × W)) (vs : List (Str × V)) : Prop :=
  fs.map (·.1) = vs.map (·.1) ∧ RepWs K η H (fs.map (·.2)) (vs.map (·.2))
def FinX (G : Gc) (E : XK) (η : List Addr) (H : Hp) (c : Nat) (fs : List (Str × W)) (S' : Store) : Prop :=
  ∀ η' H' C d vs, Fu η H η' H' → Rp G.K η' H' S' → G.ct c = some C → H' d = some (.xd vs) → RepF G.K η' H' fs vs → E (.ref C) (some d) H'
def FinR {α β : Type} (G : Gc) (rel : α → List Addr → Hp → β → Prop) (E : XK) (η : List Addr) (H : Hp) (r : R α) (Q : β → Hp → Prop) : Prop :=
  match r with
  | .ok a S' => ∀ η' H' v, Fu η H η' H' → Rp G.K η' H' S' → rel a η' H' v → Q v H'
  | .exc c fs S' => FinX G E η H c fs S'
  | .bad => False
abbrev relW (G : Gc) : W → List Addr → Hp → V → Prop := fun w η H v => RepW G.K η H w v
abbrev relB : Bool → List Addr → Hp → Bool → Prop := fun b _ _ v => v = b
abbrev relL (G : Gc) : List W → List Addr → Hp → List V → Prop := fun w η H v => RepWs G.K η H w v
abbrev FinP (G : Gc) (E : XK) (η : List Addr) (H : Hp) (r : R W) (Q : VK) : Prop := FinR G (relW G) E η H r Q
abbrev FinB (G : Gc) (E : XK) (η : List Addr) (H : Hp) (r : R Bool) (Q : Bool → Hp → Prop) : Prop := FinR G relB E η H r Q
abbrev FinL (G : Gc) (E : XK) (η : List Addr) (H : Hp) (r : R (List W)) (Q : List V → Hp → Prop) : Prop := FinR G (relL G) E η H r Q
def FinO (G : Gc) (η : List Addr) (H : Hp) (r : O) (Q : VK) : Prop :=
  match r with
  | some (w, S') => ∀ η' H' v, Fu η H η' H' → Rp G.K η' H' S' → RepW G.K η' H' w v → Q v H'
  | none => False
inductive RF where
  | next (ρ : Rho) (S : Store)
  | ret (w : W) (S : Store)
  | brk (ρ : Rho) (S : Store)
  | cnt (ρ : Rho) (S : Store)
  | exc (c : Nat) (fs : List (Str × W)) (ρ : Rho) (S : Store)
  | bad
def FinS (G : Gc) (E : L2.St → XK) (η : List Addr) (H : Hp) (r : RF) (D : Ends) : Prop :=
  match r with
  | .next ρ S' => ∀ η' H' σ, Fu η H η' H' → Rp G.K η' H' S' → ERep G.K η' H' ρ σ → D.nx σ H'
  | .ret w S' => ∀ η' H' v, Fu η H η' H' → Rp G.K η' H' S' → RepW G.K η' H' w v → D.rt v H'
  | .brk ρ S' => ∀ η' H' σ, Fu η H η' H' → Rp G.K η' H' S' → ERep G.K η' H' ρ σ → D.bk σ H'
  | .cnt ρ S' => ∀ η' H' σ, Fu η H η' H' → Rp G.K η' H' S' → ERep G.K η' H' ρ σ → D.ct σ H'
  | .exc c fs ρ S' => ∀ η' H' σ C d vs, Fu η H η' H' → Rp G.K η' H' S' → ERep G.K η' H' ρ σ → G.ct c = some C → H' d = some (.xd vs) → RepF G.K η' H' fs vs → E σ (.ref C) (some d) H'
  | .bad => False
abbrev FE := Rho → Store → R W
abbrev FT := Rho → Store → R Bool
abbrev FA := Rho → Store → R (List W)
abbrev FS := Rho → Store → RF
abbrev EX := L2.St → XK
def tF (G : Gc) (E : EX) (f : FE) : TE := fun σ H Q => ∃ η ρ S, Rp G.K η H S ∧ ERep G.K η H ρ σ ∧ FinP G (E σ) η H (f ρ S) Q
def tT (G : Gc) (E : EX) (f : FT) : TT := fun σ H Q => ∃ η ρ S, Rp G.K η H S ∧ ERep G.K η H ρ σ ∧ FinB G (E σ) η H (f ρ S) Q
def tA (G : Gc) (E : EX) (f : FA) : TA := fun σ H Q => ∃ η ρ S, Rp G.K η H S ∧ ERep G.K η H ρ σ ∧ FinL G (E σ) η H (f ρ S) Q
def tS (G : Gc) (E : EX) (f : FS) : TS := fun D σ H => ∃ η ρ S, Rp G.K η H S ∧ ERep G.K η H ρ σ ∧ FinS G E η H (f ρ S) D
theorem PEw {X : Cx} {e : Expr} {t t' : TE} (h : PE X e t) (i : ∀ σ H Q, t' σ H Q → t σ H Q) : PE X e t' := ⟨fun pins s σ H Q I q => h.run pins s σ H Q I (i σ H Q q)⟩
theorem PTw {X : Cx} {e : Expr} {t t' : TT} (h : PT X e t) (i : ∀ σ H Q, t' σ H Q → t σ H Q) : PT X e t' := ⟨fun pins s σ H Q I q => h.run pins s σ H Q I (i σ H Q q)⟩
theorem PWw {X : Cx} {e : Expr} {t t' : TT} (h : PW X e t) (i : ∀ σ H Q, t' σ H Q → t σ H Q) : PW X e t' := ⟨fun wh pins s σ H Q I q => h.run wh pins s σ H Q I (i σ H Q q)⟩
theorem PAw {X : Cx} {e : List Expr} {t t' : TA} (h : PA X e t) (i : ∀ σ H Q, t' σ H Q → t σ H Q) : PA X e t' := ⟨fun p pins s σ H Q I q => h.run p pins s σ H Q I (i σ H Q q)⟩
theorem PSw {X : Cx} {e : Stmt} {t t' : TS} (h : PS X e t) (i : ∀ D σ H, t' D σ H → t D σ H) : PS X e t' := ⟨fun pins s σ H Q I q => h.run pins s σ H Q I (i Q σ H q)⟩
theorem PSsw {X : Cx} {e : List Stmt} {t t' : TS} (h : PSs X e t) (i : ∀ D σ H, t' D σ H → t D σ H) : PSs X e t' := ⟨fun pins s σ H Q I q => h.run pins s σ H Q I (i Q σ H q)⟩
section
variable {G : Gc} {E : XK} {η : List Addr} {H : Hp}
theorem FinX.fu {c : Nat} {fs : List (Str × W)} {S' : Store} {η' : List Addr} {H' : Hp} (f : Fu η H η' H') (h : FinX G E η H c fs S') : FinX G E η' H' c fs S' :=
  fun η2 H2 C d vs g => h η2 H2 C d vs (f.trans g)
theorem FinR.fu {α β : Type} {rel : α → List Addr → Hp → β → Prop} {r : R α} {Q : β → Hp → Prop} {η' : List Addr} {H' : Hp} (f : Fu η H η' H') (h : FinR G rel E η H r Q) : FinR G rel E η' H' r Q := by
  cases r with
  | ok w2 S2 => exact fun η2 H2 v2 g => h η2 H2 v2 (f.trans g)
  | exc c fs S2 => exact FinX.fu f h
  | bad => exact h
theorem FinR.bind {α β γ δ : Type} {rel : α → List Addr → Hp → β → Prop} {rel2 : γ → List Addr → Hp → δ → Prop} {r : R α} {k : α → Store → R γ} {Q : δ → Hp → Prop} (h : FinR G rel2 E η H (r.bind k) Q) :
    FinR G rel E η H r fun v H1 => ∃ η1 w S1, Fu η H η1 H1 ∧ Rp G.K η1 H1 S1 ∧ rel w η1 H1 v ∧ FinR G rel2 E η1 H1 (k w S1) Q := by
  cases r with
  | ok w S' => exact fun η' H' v f rp rw_ => ⟨η', w, S', f, rp, rw_, FinR.fu f (show FinR G rel2 E η H (k w S') Q from h)⟩
  | exc c fs S' => exact h
  | bad => exact h
theorem FinR.mono {α β : Type} {rel : α → List Addr → Hp → β → Prop} {r : R α} {Q Q' : β → Hp → Prop} (h : FinR G rel E η H r Q) (i : ∀ v H', Q v H' → Q' v H') : FinR G rel E η H r Q' := by
  cases r with
  | ok w S' => exact fun η' H' v f a b => i v H' (h η' H' v f a b)
  | exc c fs S' => exact h
  | bad => exact h
theorem FinO.fu {r : O} {Q : VK} {η' : List Addr} {H' : Hp} (f : Fu η H η' H') (h : FinO G η H r Q) : FinO G η' H' r Q := by
  cases r with
  | some p => exact fun η2 H2 v2 g => h η2 H2 v2 (f.trans g)
  | none => exact h
theorem FinO.mono {r : O} {Q Q' : VK} (h : FinO G η H r Q) (i : ∀ v H', Q v H' → Q' v H') : FinO G η H r Q' := by
  cases r with
  | some p => exact fun η' H' v f a b => i v H' (h η' H' v f a b)
  | none => exact h
theorem FinS.fu {E : EX} {r : RF} {D : Ends} {η' : List Addr} {H' : Hp} (f : Fu η H η' H') (h : FinS G E η H r D) : FinS G E η' H' r D := by
  cases r with
  | next => exact fun η2 H2 v2 g => h η2 H2 v2 (f.trans g)
  | ret => exact fun η2 H2 v2 g => h η2 H2 v2 (f.trans g)
  | brk => exact fun η2 H2 v2 g => h η2 H2 v2 (f.trans g)
  | cnt => exact fun η2 H2 v2 g => h η2 H2 v2 (f.trans g)
  | exc => exact fun η2 H2 σ C d vs g => h η2 H2 σ C d vs (f.trans g)
  | bad => exact h
/-- an expression ahead of what is done with it -/
def toS {α : Type} (ρ : Rho) (r : R α) (k : α → Store → RF) : RF :=
  match r with
  | .ok a S => k a S
  | .exc c fs S => .exc c fs ρ S
  | .bad => .bad
theorem FinS.bind {α β : Type} {E : EX} {rel : α → List Addr → Hp → β → Prop} {r : R α} {ρ : Rho} {σ : L2.St} {k : α → Store → RF} {D : Ends} (er : ERep G.K η H ρ σ) (h : FinS G E η H (toS ρ r k) D) :
    FinR G rel (E σ) η H r fun v H1 => ∃ η1 w S1, Fu η H η1 H1 ∧ Rp G.K η1 H1 S1 ∧ rel w η1 H1 v ∧ FinS G E η1 H1 (k w S1) D := by
  cases r with
  | ok w S' => exact fun η' H' v f rp rw_ => ⟨η', w, S', f, rp, rw_, FinS.fu f (show FinS G E η H (k w S') D from h)⟩
  | exc c fs S' => exact fun η' H' C d vs f rp hc hd hf => h η' H' σ C d vs f rp (er.fu f) hc hd hf
  | bad => exact h
theorem FinP.lift {o : O} {Q : VK} (h : FinP G E η H (lift o) Q) : FinO G η H o Q := by
  cases o with
  | none => exact h
  | some p => exact h
end
end VI
set_option Elab.async false
set_option linter.all false
set_option maxRecDepth 100000
namespace VI
open PySem PySem.Spec PyProof.Rows L2
abbrev lim : Nat := 16777216
theorem lim_ok {n : Nat} (h : n ≤ lim) : n ≤ sizeLine := by rw [sizeLine_eq]; exact h
abbrev gx (X : Cx) (ct : Nat → Option Addr) : Gc := ⟨X.K, ct⟩

/-! new objects -/
section
variable {K : PySem.W.Frag} {ct : Nat → Option Addr} {η : List Addr} {H : Hp} {S : Store} {Q : VK}
theorem new_list {ds : List PyData} {vs : List V} (rp : Rp K η H S) (r : RepDs K η H ds vs) (h : FinO ⟨K, ct⟩ η H (some (.d (.list ds), S)) Q) : ∀ p, H p = none → Q (.ref p) (upd H p (.lst vs)) := fun p hp =>
  h η _ _ (fu_new hp) (rp.new hp) (.d (.list upd_same (rp.notin hp) (RepDs.fu (fu_new hp) _ _ r)))
theorem new_tup {ds : List PyData} {vs : List V} (rp : Rp K η H S) (r : RepDs K η H ds vs) (h : FinO ⟨K, ct⟩ η H (some (.d (.tuple ds), S)) Q) : ∀ p, H p = none → Q (.ref p) (upd H p (.tup vs)) := fun p hp =>
  h η _ _ (fu_new hp) (rp.new hp) (.d (.tuple (SqT.of upd_same) (RepDs.fu (fu_new hp) _ _ r)))
theorem new_tp {ws : List W} {vs : List V} (rp : Rp K η H S) (r : RepWs K η H ws vs) (h : FinO ⟨K, ct⟩ η H (some (.tp ws, S)) Q) : ∀ p, H p = none → Q (.ref p) (upd H p (.tup vs)) := fun p hp =>
  h η _ _ (fu_new hp) (rp.new hp) (.tp (SqT.of upd_same) (RepWs.fu (fu_new hp) _ _ r))
theorem new_live {ws : List PyData} {vs : List V} (rp : Rp K η H S) (r : RepDs K η H ws vs) (h : FinO ⟨K, ct⟩ η H (some (.loc S.length, S ++ [.lst ws])) Q) : ∀ p, H p = none → Q (.ref p) (upd H p (.lst vs)) := fun p hp =>
  h (η ++ [p]) _ _ (fu_live hp) (rp.live hp ⟨vs, upd_same, RepDs.fu (fu_live hp) _ _ r⟩) (.loc (by rw [← rp.len]; simp))
theorem same_val {w : W} {v : V} (rp : Rp K η H S) (r : RepW K η H w v) (h : FinO ⟨K, ct⟩ η H (some (w, S)) Q) : Q v H := h η H v (Fu.refl _ _) rp r
/-- a live list is written -/
theorem write_list {l : Nat} {a : Addr} {ws : List PyData} {vs : List V} {w : W} {v : V} (rp : Rp K η H S) (ha : η[l]? = some a) (r : RepDs K η H ws vs) (rw_ : RepW K η H w v) (h : FinO ⟨K, ct⟩ η H (some (w, S.set l (.lst ws))) Q) :
    Q v (upd H a (.lst vs)) := by
  have m : a ∈ η := List.mem_of_getElem? ha
  obtain ⟨u, hu, mu⟩ := rp.there m
  have f : Fu η H η (upd H a (.lst vs)) := fu_write m hu mu
  exact h η _ v f (rp.write ha ⟨vs, upd_same, RepDs.fu f _ _ r⟩) (RepW.fu f _ _ rw_)
end

/-! views -/
def asL (w : W) (S : Store) : Option (List PyData) :=
  match w with
  | .d (.list xs) => some xs
  | .loc l => match S[l]? with
    | some (.lst xs) => some xs
    | _ => none
  | _ => none
def asLW (w : W) (S : Store) : Option (List W) :=
  match w with
  | .d (.list xs) => some (xs.map W.d)
  | .loc l => match S[l]? with
    | some (.lst ws) => some (ws.map W.d)
    | _ => none
  | .fro xs => some (xs.map W.d)
  | _ => none
def asTW (w : W) : Option (List W) :=
  match w with
  | .d (.tuple xs) => some (xs.map W.d)
  | .tp ws => some ws
  | _ => none
def mkT (ws : List W) : W :=
  match datas ws with
  | some ds => .d (.tuple ds)
  | none => .tp ws
section
variable {K : PySem.W.Frag} {ct : Nat → Option Addr} {η : List Addr} {H : Hp} {S : Store} {Q : VK} {w : W} {v : V}
theorem asL_ok {xs : List PyData} (e : asL w S = some xs) (rp : Rp K η H S) (r : RepW K η H w v) : ∃ a vs, v = .ref a ∧ H a = some (.lst vs) ∧ RepDs K η H xs vs := by
  cases w with
  | d x =>
    cases r with
    | d r =>
      cases x <;> cases e
      cases r with
      | list h1 h2 h3 => exact ⟨_, _, rfl, h1, h3⟩
  | loc l =>
    cases r with
    | loc r =>
      cases q : S[l]? with
      | none => simp only [asL, q] at e; cases e
      | some o =>
        cases o with
        | lst ws =>
          simp only [asL, q] at e
          cases e
          obtain ⟨vs, h1, h2⟩ := rp.all _ _ _ r q
          exact ⟨_, vs, rfl, h1, h2⟩
        | dK _ => simp only [asL, q] at e; cases e
        | dT _ => simp only [asL, q] at e; cases e
        | ob _ _ => simp only [asL, q] at e; cases e
        | lw _ => simp only [asL, q] at e; cases e
  | tp _ => cases e
  | fro _ => cases e
  | lw _ => cases e
  | er _ _ _ => cases e
theorem asLW_ok {xs : List W} (e : asLW w S = some xs) (rp : Rp K η H S) (r : RepW K η H w v) : ∃ a vs, v = .ref a ∧ SqL K H a vs ∧ RepWs K η H xs vs := by
  cases w with
  | d x =>
    cases r with
    | d r =>
      cases x <;> cases e
      cases r with
      | list h1 h2 h3 => exact ⟨_, _, rfl, SqL.of h1, RepWs.ofD h3⟩
  | loc l =>
    cases r with
    | loc r =>
      cases q : S[l]? with
      | none => simp only [asLW, q] at e; cases e
      | some o =>
        cases o with
        | lst ws =>
          simp only [asLW, q] at e
          cases e
          obtain ⟨vs, h1, h2⟩ := rp.all _ _ _ r q
          exact ⟨_, vs, rfl, SqL.of h1, RepWs.ofD h2⟩
        | dK _ => simp only [asLW, q] at e; cases e
        | dT _ => simp only [asLW, q] at e; cases e
        | ob _ _ => simp only [asLW, q] at e; cases e
        | lw _ => simp only [asLW, q] at e; cases e
  | tp _ => cases e
  | fro _ =>
    cases e
    cases r with
    | fro h1 h2 => exact ⟨_, _, rfl, h1.seq, RepWs.ofD h2⟩
  | lw _ => cases e
  | er _ _ _ => cases e
theorem asTW_ok {xs : List W} (e : asTW w = some xs) (r : RepW K η H w v) : ∃ a vs, v = .ref a ∧ SqT K H a vs ∧ RepWs K η H xs vs := by
  cases w with
  | d x =>
    cases r with
    | d r =>
      cases x <;> cases e
      cases r with
      | tuple h1 h2 => exact ⟨_, _, rfl, h1, RepWs.ofD h2⟩
  | loc _ => cases e
  | tp _ =>
    cases e
    cases r with
    | tp h1 h2 => exact ⟨_, _, rfl, h1, h2⟩
  | fro _ => cases e
  | lw _ => cases e
  | er _ _ _ => cases e
theorem new_mkT {ws : List W} {vs : List V} (rp : Rp K η H S) (r : RepWs K η H ws vs) (h : FinO ⟨K, ct⟩ η H (some (mkT ws, S)) Q) : ∀ p, H p = none → Q (.ref p) (upd H p (.tup vs)) := by
  unfold mkT at h
  cases q : datas ws with
  | some ds => rw [q] at h; exact new_tup rp (datas_ok q r) h
  | none => rw [q] at h; exact new_tp rp r h
/-- the same tuple, seen anew -/
theorem same_mkT {ws : List W} {vs : List V} {a : Addr} (rp : Rp K η H S) (ha : SqT K H a vs) (r : RepWs K η H ws vs) (h : FinO ⟨K, ct⟩ η H (some (mkT ws, S)) Q) : Q (.ref a) H := by
  unfold mkT at h
  cases q : datas ws with
  | some ds => rw [q] at h; exact same_val rp (.d (.tuple ha (datas_ok q r))) h
  | none => rw [q] at h; exact same_val rp (.tp ha r) h
end

/-! names, constants -/
def fVar (i : Nat) : FE := fun ρ S => match ρ[i]? with
  | some (some w) => .ok w S
  | _ => .bad
def fC (w : PyData) : FE := fun _ S => .ok (.d w) S
section
variable {X : Cx} {ct : Nat → Option Addr} {E : EX}
theorem i_of {e : Expr} {i : Nat} (h : PE X e (tVar i)) : PE X e (tF (gx X ct) E (fVar i)) := PEw h fun σ H Q ⟨η, ρ, S, rp, er, h⟩ => by
  cases q : ρ[i]? with
  | none => simp only [fVar, q] at h; exact h.elim
  | some o =>
    cases o with
    | none => simp only [fVar, q] at h; exact h.elim
    | some w =>
      simp only [fVar, q] at h
      obtain ⟨v, e1, r⟩ := er.2 i w q
      exact ⟨v, e1, h η H v (Fu.refl _ _) rp r⟩
theorem iv (i : Nat) {x : Str} {pos : Pos} (hN : X.N[i]? = some x := by rfl) (hv : Vis X.env.scope x := by first | exact Or.inl rfl | exact Or.inr (Or.inl rfl) | exact Or.inr (Or.inr rfl)) (hd : (x == ("__debug__" : Str)) = false := by decide)
    (hcd : (x == ("__classdict__" : Str)) = false := by decide) : PE X (.Name x pos) (tF (gx X ct) E (fVar i)) := i_of (pe_var hN hv hd hcd)
theorem i_const {e : Expr} {w : PyData} {v : V} (h : PE X e (tC v)) (r : ∀ η H, RepD X.K η H w v) : PE X e (tF (gx X ct) E (fC w)) := PEw h fun σ H Q ⟨η, ρ, S, rp, er, h⟩ => h η H v (Fu.refl _ _) rp (.d (r η H))
theorem ii {i : Int} {j : Nat} {pos : Pos} : PE X (.Constant (.int i) j pos) (tF (gx X ct) E (fC (.int i))) := i_const pe_int fun _ _ => .int _
theorem ib {b : Bool} {j : Nat} {pos : Pos} : PE X (.Constant (.bool b) j pos) (tF (gx X ct) E (fC (.bool b))) := i_const pe_bl fun _ _ => .bool _
theorem inn {j : Nat} {pos : Pos} : PE X (.Constant .none j pos) (tF (gx X ct) E (fC .none)) := i_const pe_non fun _ _ => .none
theorem is {x : Str} {j : Nat} {pos : Pos} : PE X (.Constant (.str x) j pos) (tF (gx X ct) E (fC (.str x))) := i_const pe_str fun _ _ => .str _
/-- a constant of the module -/
theorem ig {x : Str} {v : V} {u : Value} {w : PyData} {pos : Pos} (hg : Gl X x) (hm : X.mg x = some u) (r : RelV v u) (rd : ∀ η H, RepD X.K η H w v) (hd : (x == ("__debug__" : Str)) = false := by decide) : PE X (.Name x pos) (tF (gx X ct) E (fC w)) := i_const (pe_glob hg hm r hd) rd

/-! one and two values -/
def f1 (g : W → Store → O) (a : FE) : FE := fun ρ S => (a ρ S).bind fun x S1 => lift (g x S1)
def f2 (g : W → W → Store → O) (a b : FE) : FE := fun ρ S => (a ρ S).bind fun x S1 => (b ρ S1).bind fun y S2 => lift (g x y S2)
theorem lift_ok {G : Gc} {Z : XK} {η : List Addr} {H : Hp} {o : O} {Q : VK} (h : FinP G Z η H (lift o) Q) : FinO G η H o Q := by
  cases o with
  | none => exact h
  | some p => exact h
def Sim1 (X : Cx) (ct : Nat → Option Addr) (g : W → Store → O) : V → Hp → VK → Prop := fun x H Q => ∃ η S wx, Rp X.K η H S ∧ RepW X.K η H wx x ∧ FinO (gx X ct) η H (g wx S) Q
def Sim2 (X : Cx) (ct : Nat → Option Addr) (g : W → W → Store → O) : R2 := fun x y H Q => ∃ η S wx wy, Rp X.K η H S ∧ RepW X.K η H wx x ∧ RepW X.K η H wy y ∧ FinO (gx X ct) η H (g wx wy S) Q
theorem get1 {a : FE} {g : W → Store → O} {r : V → Hp → VK → Prop} (hr : ∀ x H Q, Sim1 X ct g x H Q → r x H Q) : ∀ σ H Q, tF (gx X ct) E (f1 g a) σ H Q → tF (gx X ct) E a σ H fun x H1 => r x H1 Q := fun σ H Q ⟨η, ρ, S, rp, er, h⟩ =>
  ⟨η, ρ, S, rp, er, FinR.mono (FinR.bind h) fun v H1 ⟨η1, w, S1, f, rp1, r1, h1⟩ => hr _ _ _ ⟨η1, S1, w, rp1, r1, lift_ok h1⟩⟩
theorem get2 {a b : FE} {g : W → W → Store → O} {r : R2} (hr : ∀ x y H Q, Sim2 X ct g x y H Q → r x y H Q) : ∀ σ H Q, tF (gx X ct) E (f2 g a b) σ H Q → tOp r (tF (gx X ct) E a) (tF (gx X ct) E b) σ H Q := fun σ H Q ⟨η, ρ, S, rp, er, h⟩ =>
  ⟨η, ρ, S, rp, er, FinR.mono (FinR.bind h) fun v H1 ⟨η1, w, S1, f, rp1, r1, h1⟩ =>
    ⟨η1, ρ, S1, rp1, er.fu f, FinR.mono (FinR.bind h1) fun v2 H2 ⟨η2, w2, S2, f2, rp2, r2, h2⟩ => hr _ _ _ _ ⟨η2, S2, w, w2, rp2, RepW.fu f2 _ _ r1, r2, lift_ok h2⟩⟩⟩
theorem i_op {op : Operator} {g : W → W → Store → O} {a b : Expr} {fa fb : FE} {pos : Pos} (ho : OpR X (binaryOp op) (Sim2 X ct g)) (ha : PE X a (tF (gx X ct) E fa)) (hb : PE X b (tF (gx X ct) E fb)) : PE X (.BinOp a op b pos) (tF (gx X ct) E (f2 g fa fb)) :=
  PEw (pe_op ho ha hb) (get2 fun _ _ _ _ h => h)
theorem i_cmp {op : CmpOp} {g : W → W → Store → O} {a b : Expr} {fa fb : FE} {pos : Pos} (ho : OpR X (compareOp op) (Sim2 X ct g)) (ha : PE X a (tF (gx X ct) E fa)) (hb : PE X b (tF (gx X ct) E fb)) (hm : behindInMarks op b = false) :
    PE X (.Compare a [op] [b] pos) (tF (gx X ct) E (f2 g fa fb)) := PEw (pe_cmpR ho ha hb hm) (get2 fun _ _ _ _ h => h)
/-- a rule of the layer that the reading fits -/
theorem OpR.fit {f : Value → Value → Sem Value} {r r' : R2} (h : OpR X f r) (i : ∀ x y H Q, r' x y H Q → r x y H Q) : OpR X f r' := fun pins s σ H x y v u Q I rx ry q => h pins s σ H x y v u Q I rx ry (i _ _ _ _ q)

/-! + -/
def gAdd (a b : W) (S : Store) : O :=
  match a, b with
  | .d (.int i), .d (.int j) => some (.d (.int (i + j)), S)
  | .d (.str x), .d (.str y) => if x.length + y.length ≤ lim then some (.d (.str (x ++ y)), S) else none
  | a, b => match asL a S, asL b S with
    | some xs, some ys => if xs.length + ys.length ≤ lim then some (.d (.list (xs ++ ys)), S) else none
    | _, _ => match asTW a, asTW b with
      | some xs, some ys => if xs.length + ys.length ≤ lim then some (mkT (xs ++ ys), S) else none
      | _, _ => none
def gAddInt (a b : W) (S : Store) : O := match a, b with
  | .d (.int i), .d (.int j) => some (.d (.int (i + j)), S)
  | _, _ => none
def gAddStr (a b : W) (S : Store) : O := match a, b with
  | .d (.str x), .d (.str y) => if x.length + y.length ≤ lim then some (.d (.str (x ++ y)), S) else none
  | _, _ => none
def gCat (a b : W) (S : Store) : O := match asL a S, asL b S with
  | some xs, some ys => if xs.length + ys.length ≤ lim then some (.d (.list (xs ++ ys)), S) else none
  | _, _ => none
def gCatT (a b : W) (S : Store) : O := match asTW a, asTW b with
  | some xs, some ys => if xs.length + ys.length ≤ lim then some (mkT (xs ++ ys), S) else none
  | _, _ => none
/-- two ints -/
theorem int2 {g : Int → Int → Option V} {gg : W → W → Store → O} : True := trivial
def gI2 (C : Int → Int → Bool) (g : Int → Int → PyData) (a b : W) (S : Store) : O := match a, b with
  | .d (.int i), .d (.int j) => if C i j = true then some (.d (g i j), S) else none
  | _, _ => none
theorem sim_i2 {f : Value → Value → Sem Value} {C : Int → Int → Bool} {C' : Int → Int → Prop} {g : Int → Int → PyData} {g' : Int → Int → V} (ho : OpR X f (rI C' g')) (hC : ∀ i j, C i j = true → C' i j) (hg : ∀ i j η H, RepD X.K η H (g i j) (g' i j)) : OpR X f (Sim2 X ct (gI2 C g)) :=
  OpR.fit ho fun x y H Q ⟨η, S, wx, wy, rp, rx, ry, h⟩ => by
    cases wx with
    | d x =>
      cases x with
      | int i =>
        cases wy with
        | d y =>
          cases y with
          | int j =>
            cases rx with
            | d rx =>
              cases ry with
              | d ry =>
                cases rx
                cases ry
                simp only [gI2] at h
                split at h
                · exact ⟨i, j, rfl, rfl, hC _ _ (by assumption), same_val rp (.d (hg _ _ _ _)) h⟩
                · exact h.elim
          | _ => exact h.elim
        | _ => exact h.elim
      | _ => exact h.elim
    | _ => exact h.elim
theorem rI0_rI {g : Int → Int → V} {x y : V} {H : Hp} {Q : VK} (h : rI (fun _ _ => True) g x y H Q) : rI0 g x y H Q := by
  obtain ⟨i, j, e1, e2, _, q⟩ := h
  exact ⟨i, j, e1, e2, q⟩
theorem sim_i20 {f : Value → Value → Sem Value} {g : Int → Int → PyData} {g' : Int → Int → V} (ho : OpR X f (rI0 g')) (hg : ∀ i j η H, RepD X.K η H (g i j) (g' i j)) : OpR X f (Sim2 X ct (gI2 (fun _ _ => true) g)) :=
  sim_i2 (C' := fun _ _ => True) (OpR.fit ho fun _ _ _ _ => rI0_rI) (fun _ _ _ => trivial) hg
end
end VI
set_option Elab.async false
set_option linter.all false
set_option maxRecDepth 100000
namespace VI
open PySem PySem.Spec PyProof.Rows L2
section
variable {X : Cx} {ct : Nat → Option Addr} {E : EX}

/-! + of all sorts -/
theorem sim_addStr : OpR X (binaryOp .Add) (Sim2 X ct gAddStr) := OpR.fit op_add_str fun x y H Q ⟨η, S, wx, wy, rp, rx, ry, h⟩ => by
  unfold gAddStr at h
  split at h
  · cases rx with
    | d rx =>
      cases ry with
      | d ry =>
        cases rx
        cases ry
        split at h
        · exact ⟨_, _, rfl, rfl, lim_ok (by assumption), same_val rp (.d (.str _)) h⟩
        · exact h.elim
  · exact h.elim
theorem sim_cat : OpR X (binaryOp .Add) (Sim2 X ct gCat) := OpR.fit op_cat fun x y H Q ⟨η, S, wx, wy, rp, rx, ry, h⟩ => by
  unfold gCat at h
  split at h
  · rename_i xs ys e1 e2
    obtain ⟨a, vs, rfl, h1, r1⟩ := asL_ok e1 rp rx
    obtain ⟨b, us, rfl, h2, r2⟩ := asL_ok e2 rp ry
    split at h
    · rename_i hz
      exact ⟨a, b, vs, us, rfl, rfl, h1, h2, lim_ok (by rw [← r1.length, ← r2.length]; exact hz), new_list rp (r1.append r2) h⟩
    · exact h.elim
  · exact h.elim
theorem repWs_nil_iff {K : PySem.W.Frag} {η : List Addr} {H : Hp} {ws : List W} {vs : List V} (r : RepWs K η H ws vs) : vs = [] ↔ ws = [] := by
  cases r <;> simp
theorem sim_catT : OpR X (binaryOp .Add) (Sim2 X ct gCatT) := OpR.fit op_catA fun x y H Q ⟨η, S, wx, wy, rp, rx, ry, h⟩ => by
  unfold gCatT at h
  split at h
  · rename_i xs ys e1 e2
    obtain ⟨a, vs, rfl, h1, r1⟩ := asTW_ok e1 rx
    obtain ⟨b, us, rfl, h2, r2⟩ := asTW_ok e2 ry
    split at h
    · rename_i hz
      refine ⟨a, b, vs, us, rfl, rfl, h1, h2, lim_ok (by rw [← r1.length, ← r2.length]; exact hz), fun e => ?_, fun _ e => ?_, fun _ _ => new_mkT rp (r1.append r2) h⟩
      · obtain rfl := (repWs_nil_iff r1).mp e
        exact same_mkT rp h2 r2 h
      · obtain rfl := (repWs_nil_iff r2).mp e
        rw [List.append_nil] at h
        exact same_mkT rp h1 r1 h
    · exact h.elim
  · exact h.elim
/-- by cases: where the first has a word, it holds -/
theorem OpR.orElse {f : Value → Value → Sem Value} {g g' : W → W → Store → O} (h : OpR X f (Sim2 X ct g)) (h' : OpR X f (Sim2 X ct g')) : OpR X f (Sim2 X ct fun a b S => match g a b S with
  | some o => some o
  | none => g' a b S) := by
  intro pins s σ H x y v u Q I rx ry ⟨η, S, wx, wy, rp, r1, r2, q⟩
  cases e : g wx wy S with
  | some o => simp only [e] at q; exact h pins s σ H x y v u Q I rx ry ⟨η, S, wx, wy, rp, r1, r2, by rw [e]; exact q⟩
  | none => simp only [e] at q; exact h' pins s σ H x y v u Q I rx ry ⟨η, S, wx, wy, rp, r1, r2, q⟩
theorem OpR.ext {f : Value → Value → Sem Value} {g g' : W → W → Store → O} (h : OpR X f (Sim2 X ct g)) (e : ∀ a b S, g' a b S = none ∨ g' a b S = g a b S) : OpR X f (Sim2 X ct g') := OpR.fit h fun x y H Q ⟨η, S, wx, wy, rp, r1, r2, q⟩ => by
  rcases e wx wy S with z | z
  · rw [z] at q; exact q.elim
  · exact ⟨η, S, wx, wy, rp, r1, r2, by rw [← z]; exact q⟩
theorem sim_addI : OpR X (binaryOp .Add) (Sim2 X ct (gI2 (fun _ _ => true) fun i j => .int (i + j))) := sim_i20 op_add fun _ _ _ _ => .int _
theorem sim_add : OpR X (binaryOp .Add) (Sim2 X ct gAdd) := OpR.ext (OpR.orElse sim_addI (OpR.orElse sim_addStr (OpR.orElse sim_cat sim_catT))) fun a b S => by
  by_cases h1 : ∃ i j, a = .d (.int i) ∧ b = .d (.int j)
  · obtain ⟨i, j, rfl, rfl⟩ := h1
    exact .inr rfl
  by_cases h2 : ∃ x y, a = .d (.str x) ∧ b = .d (.str y)
  · obtain ⟨x, y, rfl, rfl⟩ := h2
    simp only [gAdd, gI2, gAddStr, gCat, gCatT, asL, asTW]
    split
    · exact .inr rfl
    · exact .inl rfl
  have e1 : gI2 (fun _ _ => true) (fun i j => PyData.int (i + j)) a b S = none := by
    unfold gI2
    split
    · exact absurd ⟨_, _, rfl, rfl⟩ h1
    · rfl
  have e2 : gAddStr a b S = none := by
    unfold gAddStr
    split
    · exact absurd ⟨_, _, rfl, rfl⟩ h2
    · rfl
  rw [e1, e2]
  dsimp only
  unfold gAdd gCat gCatT
  split
  · exact absurd ⟨_, _, rfl, rfl⟩ h1
  · exact absurd ⟨_, _, rfl, rfl⟩ h2
  · split
    · rename_i xs ys e3 e4
      split
      · simp
      · exact .inl rfl
    · simp
abbrev gSub := gI2 (fun _ _ => true) fun i j => .int (i - j)
theorem sim_sub : OpR X (binaryOp .Sub) (Sim2 X ct gSub) := sim_i20 op_sub fun _ _ _ _ => .int _
abbrev gMul := gI2 (fun i j => decide (i.natAbs.log2 + j.natAbs.log2 < 1000000)) fun i j => .int (i * j)
theorem sim_mul : OpR X (binaryOp .Mult) (Sim2 X ct gMul) := sim_i2 op_mulW (fun i j h => show i.natAbs.log2 + j.natAbs.log2 < 1000000 from of_decide_eq_true h) fun _ _ _ _ => .int _
abbrev gMod := gI2 (fun _ j => decide (0 < j)) fun i j => .int (i % j)
theorem sim_mod : OpR X (binaryOp .Mod) (Sim2 X ct gMod) := sim_i2 op_mod (fun _ _ h => of_decide_eq_true h) fun _ _ _ _ => .int _
abbrev gDiv := gI2 (fun _ j => decide (0 < j ∧ j < 1073741824)) fun i j => .int (i / j)
theorem sim_div : OpR X (binaryOp .FloorDiv) (Sim2 X ct gDiv) := sim_i2 op_fdiv (fun i j h => show 0 < j ∧ j < 1073741824 from of_decide_eq_true h) fun _ _ _ _ => .int _
abbrev gPow := gI2 (fun i j => decide (0 ≤ j ∧ j ≤ 1000000 ∧ i.natAbs < 18446744073709551616)) fun i j => .int (i ^ j.toNat)
theorem sim_pow : OpR X (binaryOp .Pow) (Sim2 X ct gPow) := sim_i2 op_pow (fun i j h => show 0 ≤ j ∧ j ≤ 1000000 ∧ i.natAbs < 18446744073709551616 from of_decide_eq_true h) fun _ _ _ _ => .int _
/-! comparisons -/
abbrev gLt := gI2 (fun _ _ => true) fun i j => .bool (decide (i < j))
abbrev gLe := gI2 (fun _ _ => true) fun i j => .bool (decide (i ≤ j))
abbrev gGt := gI2 (fun _ _ => true) fun i j => .bool (decide (j < i))
abbrev gGe := gI2 (fun _ _ => true) fun i j => .bool (decide (j ≤ i))
theorem sim_lt : OpR X (compareOp .Lt) (Sim2 X ct gLt) := sim_i20 op_lt fun _ _ _ _ => .bool _
theorem sim_le : OpR X (compareOp .LtE) (Sim2 X ct gLe) := sim_i20 op_le fun _ _ _ _ => .bool _
theorem sim_gt : OpR X (compareOp .Gt) (Sim2 X ct gGt) := sim_i20 op_gt fun _ _ _ _ => .bool _
theorem sim_ge : OpR X (compareOp .GtE) (Sim2 X ct gGe) := sim_i20 op_ge fun _ _ _ _ => .bool _
mutual
/-- pure data of a value -/
def asD (w : W) (S : Store) : Option PyData :=
  match w with
  | .d x => some x
  | .loc l => match S[l]? with
    | some (.lst ds) => some (.list ds)
    | _ => none
  | .tp ws => match asDs ws S with
    | some ds => some (.tuple ds)
    | none => none
  | .lw ws => match asDs ws S with
    | some ds => some (.list ds)
    | none => none
  | .er _ _ _ => none
  | .fro _ => none
def asDs (ws : List W) (S : Store) : Option (List PyData) :=
  match ws with
  | [] => some []
  | w :: r => match asD w S, asDs r S with
    | some d, some ds => some (d :: ds)
    | _, _ => none
end
mutual
theorem RepD.dp {K : PySem.W.Frag} {η : List Addr} {H : Hp} : ∀ (x : PyData) (v : V), x.hasDict = false → RepD K η H x v → Dp K H v x
  | .none, _, _, h => by cases h; exact .non
  | .bool _, _, _, h => by cases h; exact .bl _
  | .int _, _, _, h => by cases h; exact .int _
  | .str _, _, _, h => by cases h; exact .str _
  | .list ds, _, n, h => by cases h with | list h1 h2 h3 => exact .lst (SqL.of h1) (RepDs.dp ds _ n h3)
  | .tuple ds, _, n, h => by cases h with | tuple h1 h2 => exact .tup h1 (RepDs.dp ds _ n h2)
  | .dict _, _, n, h => by cases n
theorem RepDs.dp {K : PySem.W.Frag} {η : List Addr} {H : Hp} : ∀ (xs : List PyData) (vs : List V), PyData.hasDictAll xs = false → RepDs K η H xs vs → DpAll K H vs xs
  | [], _, _, h => by cases h; exact .nil
  | x :: xs, _, n, h => by
    cases h with
    | cons h1 h2 =>
      have n2 : (PyData.hasDict x || PyData.hasDictAll xs) = false := n
      rw [Bool.or_eq_false_iff] at n2
      exact .cons (RepD.dp x _ n2.1 h1) (RepDs.dp xs _ n2.2 h2)
end
mutual
theorem asD_at {K : PySem.W.Frag} {η : List Addr} {H : Hp} {S : Store} (rp : Rp K η H S) : ∀ (w : W) (v : V) (x : PyData), asD w S = some x → x.hasDict = false → RepW K η H w v → Dp K H v x
  | .d y, v, x, e, n, r => by rw [asD] at e; cases e; cases r with | d r => exact RepD.dp _ _ n r
  | .loc l, v, x, e, n, r => by
    rw [asD] at e
    cases r with
    | loc r =>
      cases q : S[l]? with
      | none => rw [q] at e; cases e
      | some o =>
        rw [q] at e
        cases o with
        | lst ws =>
          cases e
          obtain ⟨vs, h1, h2⟩ := rp.all _ _ _ r q
          exact .lst (SqL.of h1) (RepDs.dp _ _ n h2)
        | dK _ => cases e
        | dT _ => cases e
        | ob _ _ => cases e
        | lw _ => cases e
  | .tp ws, v, x, e, n, r => by
    rw [asD] at e
    cases r with
    | tp h1 h2 =>
      cases q : asDs ws S with
      | none => rw [q] at e; cases e
      | some ds =>
        rw [q] at e
        cases e
        exact .tup h1 (asDs_at rp ws _ ds q n h2)
  | .fro _, v, x, e, n, r => by rw [asD] at e; cases e
  | .er _ _ _, v, x, e, n, r => by rw [asD] at e; cases e
  | .lw ws, v, x, e, n, r => by
    rw [asD] at e
    cases r with
    | lw h1 _ h2 =>
      cases q : asDs ws S with
      | none => rw [q] at e; cases e
      | some ds =>
        rw [q] at e
        cases e
        exact .lst (SqL.of h1) (asDs_at rp ws _ ds q n h2)
theorem asDs_at {K : PySem.W.Frag} {η : List Addr} {H : Hp} {S : Store} (rp : Rp K η H S) : ∀ (ws : List W) (vs : List V) (xs : List PyData), asDs ws S = some xs → PyData.hasDictAll xs = false → RepWs K η H ws vs → DpAll K H vs xs
  | [], vs, xs, e, n, r => by rw [asDs] at e; cases e; cases r; exact .nil
  | w :: ws, vs, xs, e, n, r => by
    rw [asDs] at e
    cases r with
    | cons r1 r2 =>
      split at e
      · rename_i d ds e1 e2
        cases e
        have n2 : (PyData.hasDict d || PyData.hasDictAll ds) = false := n
        rw [Bool.or_eq_false_iff] at n2
        exact .cons (asD_at rp w _ d e1 n2.1 r1) (asDs_at rp ws _ ds e2 n2.2 r2)
      · cases e
end
theorem asD_ok {K : PySem.W.Frag} {η : List Addr} {H : Hp} {S : Store} {w : W} {v : V} {x : PyData} (e : asD w S = some x) (n : x.hasDict = false) (rp : Rp K η H S) (r : RepW K η H w v) : Dp K H v x := asD_at rp w v x e n r
theorem noD_of {x : PyData} (h : SeqAt.shaped x = true) : x.hasDict = false := PyData.hasDict_of_canLay _ (SeqAt.canLay_of_shaped h)
def gEqD (a b : W) (S : Store) : O := match asD a S, asD b S with
  | some x, some y => if SeqAt.shaped x = true ∧ SeqAt.shaped y = true then some (.d (.bool (PyData.eqv x y)), S) else none
  | _, _ => none
def gNeD (a b : W) (S : Store) : O := match asD a S, asD b S with
  | some x, some y => if SeqAt.shaped x = true ∧ SeqAt.shaped y = true then some (.d (.bool (!PyData.eqv x y)), S) else none
  | _, _ => none
/-- two texts, whatever their signs -/
def gEqS (a b : W) (S : Store) : O := match a, b with
  | .d (.str x), .d (.str y) => some (.d (.bool (x == y)), S)
  | _, _ => none
def gNeS (a b : W) (S : Store) : O := match a, b with
  | .d (.str x), .d (.str y) => some (.d (.bool (!(x == y))), S)
  | _, _ => none
def gEq (a b : W) (S : Store) : O := match gEqS a b S with
  | some o => some o
  | none => gEqD a b S
def gNe (a b : W) (S : Store) : O := match gNeS a b S with
  | some o => some o
  | none => gNeD a b S
theorem sim_eqS : OpR X (compareOp .Eq) (Sim2 X ct gEqS) := OpR.fit op_eq fun x y H Q ⟨η, S, wx, wy, rp, rx, ry, h⟩ => by
  unfold gEqS at h
  split at h
  · cases rx with
    | d rx =>
      cases ry with
      | d ry =>
        cases rx
        cases ry
        refine ⟨rfl, ?_⟩
        rw [dec_str]
        exact same_val rp (.d (.bool _)) h
  · exact h.elim
theorem sim_neS : OpR X (compareOp .NotEq) (Sim2 X ct gNeS) := OpR.fit op_ne fun x y H Q ⟨η, S, wx, wy, rp, rx, ry, h⟩ => by
  unfold gNeS at h
  split at h
  · cases rx with
    | d rx =>
      cases ry with
      | d ry =>
        cases rx
        cases ry
        refine ⟨rfl, ?_⟩
        rw [dec_str]
        exact same_val rp (.d (.bool _)) h
  · exact h.elim
theorem sim_eqD (hu : X.A.units + 64 < cLine) : OpR X (compareOp .Eq) (Sim2 X ct gEqD) := OpR.fit (op_eqD hu) fun x y H Q ⟨η, S, wx, wy, rp, rx, ry, h⟩ => by
  unfold gEqD at h
  split at h
  · rename_i d e e1 e2
    split at h
    · rename_i hs
      exact ⟨d, e, asD_ok e1 (noD_of hs.1) rp rx, asD_ok e2 (noD_of hs.2) rp ry, hs.1, hs.2, same_val rp (.d (.bool _)) h⟩
    · exact h.elim
  · exact h.elim
theorem sim_neD (hu : X.A.units + 64 < cLine) : OpR X (compareOp .NotEq) (Sim2 X ct gNeD) := OpR.fit (op_neD hu) fun x y H Q ⟨η, S, wx, wy, rp, rx, ry, h⟩ => by
  unfold gNeD at h
  split at h
  · rename_i d e e1 e2
    split at h
    · rename_i hs
      exact ⟨d, e, asD_ok e1 (noD_of hs.1) rp rx, asD_ok e2 (noD_of hs.2) rp ry, hs.1, hs.2, same_val rp (.d (.bool _)) h⟩
    · exact h.elim
  · exact h.elim
theorem sim_eq (hu : X.A.units + 64 < cLine) : OpR X (compareOp .Eq) (Sim2 X ct gEq) := OpR.orElse sim_eqS (sim_eqD hu)
theorem sim_ne (hu : X.A.units + 64 < cLine) : OpR X (compareOp .NotEq) (Sim2 X ct gNe) := OpR.orElse sim_neS (sim_neD hu)
/-- is None -/
def isNoneW : W → Bool
  | .d .none => true
  | _ => false
def gIsN (a b : W) (S : Store) : O := match b with
  | .d .none => some (.d (.bool (isNoneW a)), S)
  | _ => none
def gNotN (a b : W) (S : Store) : O := match b with
  | .d .none => some (.d (.bool (!isNoneW a)), S)
  | _ => none
theorem isNone_of {K : PySem.W.Frag} {η : List Addr} {H : Hp} {w : W} {v : V} (r : RepW K η H w v) : decide (v = .non) = isNoneW w := by
  cases r with
  | d r => cases r <;> simp [isNoneW]
  | loc _ => simp [isNoneW]
  | tp _ _ => simp [isNoneW]
  | fro _ _ => simp [isNoneW]
  | lw _ _ _ => simp [isNoneW]
  | er _ _ _ _ _ _ => simp [isNoneW]
  | er0 _ _ _ => simp [isNoneW]
theorem sim_isN : OpR X (compareOp .Is) (Sim2 X ct gIsN) := OpR.fit op_isN fun x y H Q ⟨η, S, wx, wy, rp, rx, ry, h⟩ => by
  unfold gIsN at h
  split at h
  · cases ry with
    | d ry =>
      cases ry
      exact ⟨rfl, by rw [isNone_of rx]; exact same_val rp (.d (.bool _)) h⟩
  · exact h.elim
theorem sim_notN : OpR X (compareOp .IsNot) (Sim2 X ct gNotN) := OpR.fit op_notN fun x y H Q ⟨η, S, wx, wy, rp, rx, ry, h⟩ => by
  unfold gNotN at h
  split at h
  · cases ry with
    | d ry =>
      cases ry
      exact ⟨rfl, by rw [isNone_of rx]; exact same_val rp (.d (.bool _)) h⟩
  · exact h.elim
/-- in a list or tuple of flat things -/
def flatD : PyData → Bool
  | .none => true
  | .bool _ => true
  | .int _ => true
  | .str _ => true
  | _ => false
def asSeq (w : W) (S : Store) : Option (List PyData) :=
  match w with
  | .d (.list xs) => some xs
  | .d (.tuple xs) => some xs
  | .loc l => match S[l]? with
    | some (.lst ws) => some ws
    | _ => none
  | .fro xs => some xs
  | _ => none
theorem asSeq_ok {K : PySem.W.Frag} {η : List Addr} {H : Hp} {S : Store} {w : W} {v : V} {xs : List PyData} (e : asSeq w S = some xs) (rp : Rp K η H S) (r : RepW K η H w v) : ∃ a vs, v = .ref a ∧ (SqL K H a vs ∨ SqT K H a vs) ∧ RepDs K η H xs vs := by
  cases w with
  | d x =>
    cases r with
    | d r =>
      cases x <;> cases e
      · cases r with
        | list h1 h2 h3 => exact ⟨_, _, rfl, .inl (SqL.of h1), h3⟩
      · cases r with
        | tuple h1 h2 => exact ⟨_, _, rfl, .inr h1, h2⟩
  | loc l =>
    have e' : asL (.loc l) S = some xs := by
      cases q : S[l]? with
      | none => simp only [asSeq, q] at e; cases e
      | some o =>
        cases o with
        | lst ws => simp only [asSeq, q] at e; simp only [asL, q]; exact e
        | dK _ => simp only [asSeq, q] at e; cases e
        | dT _ => simp only [asSeq, q] at e; cases e
        | ob _ _ => simp only [asSeq, q] at e; cases e
        | lw _ => simp only [asSeq, q] at e; cases e
    obtain ⟨a, vs, h1, h2, h3⟩ := asL_ok e' rp r
    exact ⟨a, vs, h1, .inl (SqL.of h2), h3⟩
  | tp _ => cases e
  | fro _ =>
    cases e
    cases r with
    | fro h1 h2 => exact ⟨_, _, rfl, .inl h1.seq, h2⟩
  | lw _ => cases e
  | er _ _ _ => cases e
theorem flat_of {K : PySem.W.Frag} {η : List Addr} {H : Hp} : ∀ {d : PyData} {v : V}, RepD K η H d v → flatD d = true → flatV v = true ∧ ∀ {e : PyData} {u : V}, RepD K η H e u → flatD e = true → eqV v u = PyData.eqv d e := by
  intro d v r f
  cases r with
  | none => exact ⟨rfl, fun {e u} r2 f2 => by cases r2 <;> first | rfl | cases f2⟩
  | bool b => exact ⟨rfl, fun {e u} r2 f2 => by cases r2 <;> first | rfl | cases f2⟩
  | int i => exact ⟨rfl, fun {e u} r2 f2 => by cases r2 <;> first | rfl | cases f2⟩
  | str x => exact ⟨rfl, fun {e u} r2 f2 => by cases r2 <;> first | rfl | cases f2⟩
  | list _ _ _ => cases f
  | tuple _ _ => cases f
  | dct _ _ => cases f
  | own _ _ _ => cases f
  | dctE _ _ _ _ => cases f
  | ownE _ _ _ _ _ _ => cases f
theorem flats_of {K : PySem.W.Frag} {η : List Addr} {H : Hp} {x : PyData} {v : V} (r : RepD K η H x v) (f : flatD x = true) : ∀ {ds : List PyData} {vs : List V}, RepDs K η H ds vs → ds.all flatD = true → vs.all flatV = true ∧ inV v vs = ds.any fun d => PyData.eqv d x
  | [], _, h, _ => by cases h; exact ⟨rfl, rfl⟩
  | d :: ds, _, h, a => by
    cases h with
    | cons h1 h2 =>
      rw [List.all_cons, Bool.and_eq_true] at a
      obtain ⟨i1, i2⟩ := flats_of r f h2 a.2
      obtain ⟨j1, j2⟩ := flat_of h1 a.1
      refine ⟨by rw [List.all_cons, j1, i1]; rfl, ?_⟩
      unfold inV at i2 ⊢
      rw [List.any_cons, List.any_cons, i2, j2 r f]
def gIn (neg : Bool) (a b : W) (S : Store) : O := match a, asSeq b S with
  | .d x, some xs => if flatD x = true ∧ xs.all flatD = true then some (.d (.bool (if neg then !xs.any (fun d => PyData.eqv d x) else xs.any fun d => PyData.eqv d x)), S) else none
  | _, _ => none
theorem sim_in : OpR X (compareOp .In) (Sim2 X ct (gIn false)) := OpR.fit op_in_seq fun x y H Q ⟨η, S, wx, wy, rp, rx, ry, h⟩ => by
  unfold gIn at h
  split at h
  · rename_i d xs e2
    obtain ⟨a, vs, rfl, h1, r1⟩ := asSeq_ok e2 rp ry
    cases rx with
    | d rx =>
      split at h
      · rename_i hf
        obtain ⟨i1, i2⟩ := flats_of rx hf.1 r1 hf.2
        exact ⟨a, vs, rfl, h1, (flat_of rx hf.1).1, i1, by rw [i2]; exact same_val rp (.d (.bool _)) h⟩
      · exact h.elim
  · exact h.elim
theorem sim_notIn : OpR X (compareOp .NotIn) (Sim2 X ct (gIn true)) := OpR.fit op_notIn_seq fun x y H Q ⟨η, S, wx, wy, rp, rx, ry, h⟩ => by
  unfold gIn at h
  split at h
  · rename_i d xs e2
    obtain ⟨a, vs, rfl, h1, r1⟩ := asSeq_ok e2 rp ry
    cases rx with
    | d rx =>
      split at h
      · rename_i hf
        obtain ⟨i1, i2⟩ := flats_of rx hf.1 r1 hf.2
        exact ⟨a, vs, rfl, h1, (flat_of rx hf.1).1, i1, by rw [i2]; exact same_val rp (.d (.bool _)) h⟩
      · exact h.elim
  · exact h.elim
end
end VI
set_option Elab.async false
set_option linter.all false
set_option maxRecDepth 100000
namespace VI
open PySem PySem.Spec PyProof.Rows L2
theorem kin_classD {prog : Program} {w : World} {A : Around} {E : Value → Shared → Prop} {s : Shared} {K : PySem.W.Frag} {x D : Addr} {ox od : Obj} {Q : Option Value → Shared → Prop} (T : ExcC K D) (X : K.In s.heap) (I : PySem.W.InstAt s.heap x ox D (some od)) (h : Q (some (.ref D)) ⟨s.heap, s.gens, s.drawn, s.toks + 1, s.os⟩) : wpAny (model prog w) A (getAttr? (.ref x) "__class__") Q E s := by
  obtain ⟨cd, hc, _⟩ := PySem.W.any_some T.hd
  have hf := PySem.W.findObj_data (od := od) (name := "__class__") (by rw [hc]; rfl) T.ha T.hn T.ht
  obtain ⟨hp, g, d, t, os⟩ := s
  have L0 := I.type (M := model prog w)
  have L1 := PySem.W.looks_findIn (M := model prog w) X T.hg
  have L2 := PySem.W.looks_findIn (M := model prog w) X T.hk
  have L3 := PySem.W.looks_find (M := model prog w) X I hf
  have sub : PySem.W.Looks (model prog w) hp (isInstance (.ref x) (.type "BaseException")) true := L0.andThen (PySem.W.looks_subIn X T.hs)
  unfold getAttr?
  refine wpAny_bind (wpAny_mkText ?_)
  unfold getAttrBy?
  refine wpAny_bind (wpAny_attempt ?_)
  unfold getAttrBy
  refine wpAny_holding (wpAny_bind (L0.at (wpAny_bind (L1.at ?_))))
  refine wpAny_ite_false (by kernel_rfl) ?_
  unfold getAttrByItsOwn
  refine wpAny_bind ?_
  show wpAny _ _ (typeLookup (.ref D) "__getattr__") _ _ _
  refine L2.at (wpAny_bind (wpAny_attempt (wpAny_holding ?_)))
  unfold callGetattribute
  refine wpAny_ite_false (by kernel_rfl) ?_
  unfold boundAndCalled
  rw [F.excAttr_ValueError.ga.bind]
  refine wpAny_bind (wpAny_pure ?_)
  show wpAny _ _ (call (.builtin "BaseException.__getattribute__") [.ref x, .str "__class__" t]) _ _ _
  have hk : builtinKind "BaseException.__getattribute__" = some .slot := by kernel_rfl
  have hs : splitId "BaseException.__getattribute__" = some ("BaseException", "__getattribute__") := by kernel_rfl
  have hp2 := F.excAttr_ValueError.ga.plain
  refine wpAny_call (codeAny_call_builtin hp2 F.entry_bexc_ga ?_)
  have ha := F.args_bexc_ga (.ref x) (.str "__class__" t)
  generalize hid : ("BaseException.__getattribute__" : String) = id1 at ha hk hs ⊢
  refine PySem.W.check_slot (i := id1) (self := .ref x) (rest := [.str "__class__" t]) (kw := []) hk hs sub ha ?_
  unfold Builtin.«object.__getattribute__» slotArgs
  refine wpAny_bind (wpAny_ite_false (by rfl) (wpAny_ite_false (by rfl) (wpAny_pure ?_)))
  refine wpAny_bind (wpAny_pure (wpAny_bind (L0.at (wpAny_bind (L3.at ?_)))))
  unfold Builtin.ObjectAttr.bindTo
  refine wpAny_bind (wpAny_holding ?_)
  refine wpAny_call (PySem.W.class_get X I T.hm ?_)
  refine wpAny_pure ?_
  show wpAny _ _ (handedOut (.ref D)) _ _ _
  rw [PySem.W.handedOut_of rfl]
  exact wpAny_pure (wpAny_pure h)
/-- an own exception with fields, by its class -/
theorem kitx_excD {K : PySem.W.Frag} {x D : Addr} {ox od : Obj} (T : ExcC K D) : PySem.W.KitX K (.ref x) (.ref D) fun h => PySem.W.InstAt h x ox D (some od) := by
  have k0 := PySem.W.handS_kitx_exc (x := x) (ox := ⟨.ref D, none, .fields #[], #[]⟩) T.hg T.hk T.hs T.hd T.ha T.hn T.ht T.hm
  refine ⟨fun M h _ I => I.type, fun M h X I => ?_, fun h tp dd its n sl X htp => ?_, fun {prog} {w} {A} {E} {Q} {s} X I k => kin_classD T X I k⟩
  · obtain ⟨cd, hc, _⟩ := PySem.W.any_some T.hd
    intro A Q E s k q
    obtain ⟨o, ho, hd⟩ : ∃ o : Obj, List.lookup D K = some o ∧ o.data = .cls cd := by
      unfold PySem.W.clsIn at hc
      split at hc
      · rename_i e
        cases hc
        exact ⟨_, e, rfl⟩
      · cases hc
    show wpAny M A (loadHead D >>= fun o => pure (match o.data with | .cls c => true | x => false)) Q E s
    unfold loadHead
    refine wpAny_bind (wpAny_loadPart (k _ _ (X _ _ ho)) (wpAny_pure ?_))
    rw [hd]
    exact q
  · exact k0.ne h tp dd its n sl X htp
end VI
set_option Elab.async false
set_option linter.all false
set_option maxRecDepth 100000
namespace VI
open PySem PySem.Spec PyProof.Rows L2

/-! subscripts -/
theorem atI_rep {K : PySem.W.Frag} {η : List Addr} {H : Hp} {ws : List W} {vs : List V} (r : RepWs K η H ws vs) {i : Int} {w : W} (e : atI ws i = some w) : ∃ v, atI vs i = some v ∧ RepW K η H w v := by
  unfold atI at e ⊢
  rw [← r.length]
  cases q : ixN ws.length i with
  | none => rw [q] at e; cases e
  | some j =>
    rw [q] at e
    obtain ⟨v, h1, h2⟩ := r.get (show ws[j]? = some w from e)
    exact ⟨v, h1, h2⟩
theorem atI_repD {K : PySem.W.Frag} {η : List Addr} {H : Hp} {ws : List PyData} {vs : List V} (r : RepDs K η H ws vs) {i : Int} {w : PyData} (e : atI ws i = some w) : ∃ v, atI vs i = some v ∧ RepD K η H w v := by
  unfold atI at e ⊢
  rw [← r.length]
  cases q : ixN ws.length i with
  | none => rw [q] at e; cases e
  | some j =>
    rw [q] at e
    obtain ⟨v, h1, h2⟩ := r.get (show ws[j]? = some w from e)
    exact ⟨v, h1, h2⟩
def gIx (a b : W) (S : Store) : O := match b with
  | .d (.int i) => match asSeq a S with
    | some xs => (atI xs i).map fun x => (.d x, S)
    | none => match a with
      | .tp ws => (atI ws i).map fun w => (w, S)
      | .d (.str z) => if z.length ≤ lim then (atI z.cps.toList i).map fun c => (.d (.str ⟨#[c]⟩), S) else none
      | _ => none
  | _ => none
section
variable {X : Cx} {ct : Nat → Option Addr} {E : EX}
theorem ix_any : IxR X (Sim2 X ct gIx) := by
  intro value slice pins s σ H x y v u Q I rx ry ⟨η, S, wx, wy, rp, r1, r2, q⟩ hs
  refine ix_seq value slice pins s σ H x y v u Q I rx ry ?_ hs
  unfold gIx at q
  split at q
  · rename_i i
    cases r2 with
    | d r2 =>
      cases r2
      split at q
      · rename_i ws e
        obtain ⟨a, vs, rfl, h1, h2⟩ := asSeq_ok e rp r1
        cases e2 : atI ws i with
        | none => rw [e2] at q; exact q.elim
        | some w =>
          rw [e2] at q
          obtain ⟨v', g1, g2⟩ := atI_repD h2 e2
          rcases h1 with h1 | h1
          · exact .inl ⟨a, vs, i, v', rfl, rfl, h1, g1, same_val rp (.d g2) q⟩
          · exact .inr (.inl ⟨a, vs, i, v', rfl, rfl, h1, g1, same_val rp (.d g2) q⟩)
      · split at q
        · rename_i ws _
          cases r1 with
          | tp h1 h2 =>
            cases e2 : atI ws i with
            | none => rw [e2] at q; exact q.elim
            | some w =>
              rw [e2] at q
              obtain ⟨v', g1, g2⟩ := atI_rep h2 e2
              exact .inr (.inl ⟨_, _, i, v', rfl, rfl, h1, g1, same_val rp g2 q⟩)
        · rename_i z _
          cases r1 with
          | d r1 =>
            cases r1
            split at q
            · rename_i hz
              cases e2 : atI z.cps.toList i with
              | none => rw [e2] at q; exact q.elim
              | some c =>
                rw [e2] at q
                exact .inr (.inr ⟨z, i, c, rfl, rfl, lim_ok hz, e2, same_val rp (.d (.str _)) q⟩)
            · exact q.elim
        · exact q.elim
  · exact q.elim
theorem i_ix {a b : Expr} {fa fb : FE} {pos : Pos} (ha : PE X a (tF (gx X ct) E fa)) (hb : PE X b (tF (gx X ct) E fb)) (hs : PlainIx b := by intro _ _; rfl) : PE X (.Subscript a b pos) (tF (gx X ct) E (f2 gIx fa fb)) :=
  PEw (pe_ix ix_any ha hb hs) (get2 fun _ _ _ _ h => h)

/-! slices -/
abbrev FO := Rho → Store → R (Option Int)
abbrev relO : Option Int → List Addr → Hp → Option Int → Prop := fun o _ _ v => v = o
def tO (G : Gc) (E : EX) (f : FO) : TO := fun σ H Q => ∃ η ρ S, Rp G.K η H S ∧ ERep G.K η H ρ σ ∧ FinR G relO (E σ) η H (f ρ S) Q
def fNoPart : FO := fun _ S => .ok none S
def intOf (w : W) (S : Store) : R (Option Int) := match w with
  | .d (.int i) => .ok (some i) S
  | _ => .bad
def fPart (a : FE) : FO := fun ρ S => (a ρ S).bind intOf
theorem POw {e : Option Expr} {t t' : TO} (h : PO X e t) (i : ∀ σ H Q, t' σ H Q → t σ H Q) : PO X e t' := ⟨fun pins s σ H Q I q => h.run pins s σ H Q I (i σ H Q q)⟩
theorem o_none : PO X none (tO (gx X ct) E fNoPart) := POw po_none fun σ H Q ⟨η, ρ, S, rp, er, h⟩ => h η H none (Fu.refl _ _) rp rfl
theorem o_some {e : Expr} {f : FE} (h : PE X e (tF (gx X ct) E f)) : PO X (some e) (tO (gx X ct) E (fPart f)) := POw (po_some h) fun σ H Q ⟨η, ρ, S, rp, er, h⟩ =>
  ⟨η, ρ, S, rp, er, FinR.mono (FinR.bind h) fun v H1 ⟨η1, w, S1, f, rp1, r1, h1⟩ => by
    unfold intOf at h1
    split at h1
    · cases r1 with
      | d r1 => cases r1; exact ⟨_, rfl, h1 η1 H1 _ (Fu.refl _ _) rp1 rfl⟩
    · exact h1.elim⟩
def cutG {α : Type} (xs : List α) (lo hi : Option Int) : List α := (xs.drop (HT.sIx xs.length 0 lo)).take (HT.sIx xs.length xs.length hi - HT.sIx xs.length 0 lo)
theorem cut_rep {K : PySem.W.Frag} {η : List Addr} {H : Hp} {ws : List W} {vs : List V} (r : RepWs K η H ws vs) (lo hi : Option Int) : RepWs K η H (cutG ws lo hi) (cutV vs lo hi) := by
  unfold cutG cutV
  rw [← r.length]
  exact (r.drop _).take _
theorem cutG_all {α : Type} (xs : List α) (lo hi : Option Int) (h : HT.sIx xs.length 0 lo = 0 ∧ HT.sIx xs.length xs.length hi = xs.length) : cutG xs lo hi = xs := by
  unfold cutG
  rw [h.1, h.2, List.drop_zero, Nat.sub_zero, List.take_length]
theorem cut_repD {K : PySem.W.Frag} {η : List Addr} {H : Hp} {ws : List PyData} {vs : List V} (r : RepDs K η H ws vs) (lo hi : Option Int) : RepDs K η H (cutG ws lo hi) (cutV vs lo hi) := by
  unfold cutG cutV
  rw [← r.length]
  exact (r.drop _).take _
def gSl (a : W) (lo hi : Option Int) (S : Store) : O := match a with
  | .tp ws => some (mkT (cutG ws lo hi), S)
  | .d (.tuple xs) => some (.d (.tuple (cutG xs lo hi)), S)
  | a => match asSeq a S with
    | some xs => some (.d (.list (cutG xs lo hi)), S)
    | none => none
def SimS (X : Cx) (ct : Nat → Option Addr) (g : W → Option Int → Option Int → Store → O) : V → Option Int → Option Int → Hp → VK → Prop := fun x lo hi H Q => ∃ η S wx, Rp X.K η H S ∧ RepW X.K η H wx x ∧ FinO (gx X ct) η H (g wx lo hi S) Q
/-- a list of the heap, where it is no tuple -/
theorem asSeq_list {K : PySem.W.Frag} {η : List Addr} {H : Hp} {S : Store} {w : W} {v : V} {xs : List PyData} (e : asSeq w S = some xs) (n : ∀ ys, w ≠ .d (.tuple ys)) (rp : Rp K η H S) (r : RepW K η H w v) : ∃ a vs, v = .ref a ∧ SqL K H a vs ∧ RepDs K η H xs vs := by
  cases w with
  | d x =>
    cases r with
    | d r =>
      cases x <;> cases e
      · cases r with
        | list h1 h2 h3 => exact ⟨_, _, rfl, SqL.of h1, h3⟩
      · exact absurd rfl (n _)
  | loc l =>
    cases r with
    | loc r =>
      cases q : S[l]? with
      | none => simp only [asSeq, q] at e; cases e
      | some o =>
        cases o with
        | lst ws =>
          simp only [asSeq, q] at e
          cases e
          obtain ⟨vs, h1, h2⟩ := rp.all _ _ _ r q
          exact ⟨_, vs, rfl, SqL.of h1, h2⟩
        | dK _ => simp only [asSeq, q] at e; cases e
        | dT _ => simp only [asSeq, q] at e; cases e
        | ob _ _ => simp only [asSeq, q] at e; cases e
        | lw _ => simp only [asSeq, q] at e; cases e
  | tp _ => cases e
  | fro _ =>
    cases e
    cases r with
    | fro h1 h2 => exact ⟨_, _, rfl, h1.seq, h2⟩
  | lw _ => cases e
  | er _ _ _ => cases e
theorem sl_any : SlR X (SimS X ct gSl) := by
  intro pins s σ H x v vl vu lo hi sl Q I rx hs pl pu ⟨η, S, wx, rp, r1, q⟩
  refine (sl_list.or sl_tupA) pins s σ H x v vl vu lo hi sl Q I rx hs pl pu ?_
  unfold gSl at q
  split at q
  · rename_i ws
    cases r1 with
    | tp h1 h2 =>
      refine .inr ⟨_, _, rfl, h1, fun hw => ?_, fun _ => new_mkT rp (cut_rep h2 lo hi) q⟩
      rw [← h2.length] at hw
      rw [cutG_all ws lo hi hw] at q
      exact same_mkT rp h1 h2 q
  · rename_i xs
    cases r1 with
    | d r1 =>
      cases r1 with
      | tuple h1 h2 =>
        refine .inr ⟨_, _, rfl, h1, fun hw => ?_, fun _ => new_tup rp (cut_repD h2 lo hi) q⟩
        rw [← h2.length] at hw
        rw [cutG_all xs lo hi hw] at q
        exact same_val rp (.d (.tuple h1 h2)) q
  · rename_i n2
    split at q
    · rename_i ws e
      obtain ⟨a, vs, rfl, h1, h2⟩ := asSeq_list e (fun ys e => n2 ys e) rp r1
      exact .inl ⟨a, vs, rfl, h1, new_list rp (cut_repD h2 lo hi) q⟩
    · exact q.elim
def fSl (g : W → Option Int → Option Int → Store → O) (a : FE) (lo hi : FO) : FE := fun ρ S => (a ρ S).bind fun x S1 => (lo ρ S1).bind fun l S2 => (hi ρ S2).bind fun u S3 => lift (g x l u S3)
theorem i_sl {e : Expr} {lo hi : Option Expr} {fe : FE} {fl fh : FO} {pos p2 : Pos} (he : PE X e (tF (gx X ct) E fe)) (hl : PO X lo (tO (gx X ct) E fl)) (hu : PO X hi (tO (gx X ct) E fh)) : PE X (.Subscript e (.Slice lo hi none p2) pos) (tF (gx X ct) E (fSl gSl fe fl fh)) :=
  PEw (pe_slice sl_any he hl hu) fun σ H Q ⟨η, ρ, S, rp, er, h⟩ =>
    ⟨η, ρ, S, rp, er, FinR.mono (FinR.bind h) fun v H1 ⟨η1, w, S1, f, rp1, r1, h1⟩ =>
      ⟨η1, ρ, S1, rp1, er.fu f, FinR.mono (FinR.bind h1) fun v2 H2 ⟨η2, l, S2, f2, rp2, r2, h2⟩ =>
        ⟨η2, ρ, S2, rp2, (er.fu f).fu f2, FinR.mono (FinR.bind h2) fun v3 H3 ⟨η3, u, S3, f3, rp3, r3, h3⟩ => by
          obtain rfl : v2 = l := r2
          obtain rfl : v3 = u := r3
          exact ⟨η3, S3, w, rp3, RepW.fu f3 _ _ (RepW.fu f2 _ _ r1), lift_ok h3⟩⟩⟩⟩

/-! argument lists, displays -/
def fA0 : FA := fun _ S => .ok [] S
def fAc (a : FE) (r : FA) : FA := fun ρ S => (a ρ S).bind fun x S1 => (r ρ S1).bind fun xs S2 => .ok (x :: xs) S2
theorem a0 : PA X [] (tA (gx X ct) E fA0) := PAw pa_nil fun σ H Q ⟨η, ρ, S, rp, er, h⟩ => h η H [] (Fu.refl _ _) rp .nil
theorem ac {e : Expr} {es : List Expr} {fa : FE} {fr : FA} (ha : PE X e (tF (gx X ct) E fa)) (hr : PA X es (tA (gx X ct) E fr)) (hs : starEach (e :: es) X.env = (false, eval e X.env) :: starEach es X.env := by rfl) : PA X (e :: es) (tA (gx X ct) E (fAc fa fr)) :=
  PAw (pa_cons ha hr hs) fun σ H Q ⟨η, ρ, S, rp, er, h⟩ =>
    ⟨η, ρ, S, rp, er, FinR.mono (FinR.bind h) fun v H1 ⟨η1, w, S1, f, rp1, r1, h1⟩ =>
      ⟨η1, ρ, S1, rp1, er.fu f, FinR.mono (FinR.bind h1) fun v2 H2 ⟨η2, l, S2, f2, rp2, r2, h2⟩ => h2 η2 H2 _ (Fu.refl _ _) rp2 (.cons (RepW.fu f2 _ _ r1) r2)⟩⟩
/-- what is done with values -/
def fL (g : List W → Store → O) (a : FA) : FE := fun ρ S => (a ρ S).bind fun ws S1 => lift (g ws S1)
def SimL (X : Cx) (ct : Nat → Option Addr) (g : List W → Store → O) : List V → Hp → VK → Prop := fun xs H Q => ∃ η S ws, Rp X.K η H S ∧ RepWs X.K η H ws xs ∧ FinO (gx X ct) η H (g ws S) Q
theorem getL {a : FA} {g : List W → Store → O} {r : List V → Hp → VK → Prop} (hr : ∀ x H Q, SimL X ct g x H Q → r x H Q) : ∀ σ H Q, tF (gx X ct) E (fL g a) σ H Q → tA (gx X ct) E a σ H fun x H1 => r x H1 Q := fun σ H Q ⟨η, ρ, S, rp, er, h⟩ =>
  ⟨η, ρ, S, rp, er, FinR.mono (FinR.bind h) fun v H1 ⟨η1, w, S1, f, rp1, r1, h1⟩ => hr _ _ _ ⟨η1, S1, w, rp1, r1, lift_ok h1⟩⟩
def gTup (ws : List W) (S : Store) : O := if ws.length ≤ lim then some (mkT ws, S) else none
def gLst (ws : List W) (S : Store) : O := if ws.length ≤ lim then (datas ws).map fun ds => (.d (.list ds), S) else none
def gLive (ws : List W) (S : Store) : O := if ws.length ≤ lim then (datas ws).map fun ds => (.loc S.length, S ++ [.lst ds]) else none
theorem i_tup {es : List Expr} {fa : FA} {x1 pos} (h : PA X es (tA (gx X ct) E fa)) : PE X (.Tuple es x1 pos) (tF (gx X ct) E (fL gTup fa)) := PEw (pe_tup h) (getL (r := fun xs H Q => xs.length ≤ sizeLine ∧ ∀ p, H p = none → Q (.ref p) (upd H p (.tup xs))) fun x H Q ⟨η, S, ws, rp, r, q⟩ => by
  unfold gTup at q
  split at q
  · rename_i hz
    exact ⟨lim_ok (by rw [← r.length]; exact hz), new_mkT rp r q⟩
  · exact q.elim)
theorem i_lst {es : List Expr} {fa : FA} {pos} (h : PA X es (tA (gx X ct) E fa)) : PE X (.List es pos) (tF (gx X ct) E (fL gLst fa)) := PEw (pe_lst h) (getL (r := fun xs H Q => xs.length ≤ sizeLine ∧ ∀ p, H p = none → Q (.ref p) (upd H p (.lst xs))) fun x H Q ⟨η, S, ws, rp, r, q⟩ => by
  unfold gLst at q
  split at q
  · rename_i hz
    cases e : datas ws with
    | none => rw [e] at q; exact q.elim
    | some ds => rw [e] at q; exact ⟨lim_ok (by rw [← r.length]; exact hz), new_list rp (datas_ok e r) q⟩
  · exact q.elim)
theorem i_live {es : List Expr} {fa : FA} {pos} (h : PA X es (tA (gx X ct) E fa)) : PE X (.List es pos) (tF (gx X ct) E (fL gLive fa)) := PEw (pe_lst h) (getL (r := fun xs H Q => xs.length ≤ sizeLine ∧ ∀ p, H p = none → Q (.ref p) (upd H p (.lst xs))) fun x H Q ⟨η, S, ws, rp, r, q⟩ => by
  unfold gLive at q
  split at q
  · rename_i hz
    cases e : datas ws with
    | none => rw [e] at q; exact q.elim
    | some ds => rw [e] at q; exact ⟨lim_ok (by rw [← r.length]; exact hz), new_live rp (datas_ok e r) q⟩
  · exact q.elim)

/-! tests -/
def boolW (w : W) (S : Store) : R Bool := match w with
  | .d (.bool b) => .ok b S
  | _ => .bad
def fTest (a : FE) : FT := fun ρ S => (a ρ S).bind boolW
theorem t_val {e : Expr} {f : FE} (h : PE X e (tF (gx X ct) E f)) (he : ∀ whole, isTrue e X.env whole = (do let v ← whole; standAt e.pos; holding [v] (truthy v)) := by intro _; rfl) : PT X e (tT (gx X ct) E (fTest f)) := PTw (pt_val h he) fun σ H Q ⟨η, ρ, S, rp, er, h⟩ =>
  ⟨η, ρ, S, rp, er, FinR.mono (FinR.bind h) fun v H1 ⟨η1, w, S1, f, rp1, r1, h1⟩ => by
    unfold boolW at h1
    split at h1
    · cases r1 with
      | d r1 => cases r1; exact ⟨_, rfl, h1 η1 H1 _ (Fu.refl _ _) rp1 rfl⟩
    · exact h1.elim⟩
theorem t_cmp {op : CmpOp} {g : W → W → Store → O} {a b : Expr} {fa fb : FE} {pos : Pos} (ho : OpR X (compareOp op) (Sim2 X ct g)) (ha : PE X a (tF (gx X ct) E fa)) (hb : PE X b (tF (gx X ct) E fb)) (hm : behindInMarks op b = false) :
    PT X (.Compare a [op] [b] pos) (tT (gx X ct) E (fTest (f2 g fa fb))) := PTw (pt_cmpR ho ha hb hm) fun σ H Q ⟨η, ρ, S, rp, er, h⟩ => by
  have key : tF (gx X ct) E (f2 g fa fb) σ H fun x H' => ∃ k, x = .bl k ∧ Q k H' := ⟨η, ρ, S, rp, er, FinR.mono (FinR.bind h) fun v H1 ⟨η1, w, S1, f, rp1, r1, h1⟩ => by
    unfold boolW at h1
    split at h1
    · cases r1 with
      | d r1 => cases r1; exact ⟨_, rfl, h1 η1 H1 _ (Fu.refl _ _) rp1 rfl⟩
    · exact h1.elim⟩
  exact get2 (fun _ _ _ _ h => h) σ H _ key
/-- a value's truth -/
def truW (w : W) (S : Store) : Option Bool := match w with
  | .d .none => some false
  | .d (.bool b) => some b
  | .d (.int i) => some (i != 0)
  | .d (.str y) => if y.length ≤ lim then some ((y.length : Int) != 0) else none
  | .tp ws => some (!ws.isEmpty)
  | w => match asSeq w S with
    | some ws => some (!ws.isEmpty)
    | none => none
theorem isEmpty_rep {K : PySem.W.Frag} {η : List Addr} {H : Hp} {ws : List W} {vs : List V} (r : RepWs K η H ws vs) : (!ws.isEmpty) = !vs.isEmpty := by
  cases r <;> rfl
theorem isEmpty_repD {K : PySem.W.Frag} {η : List Addr} {H : Hp} {ws : List PyData} {vs : List V} (r : RepDs K η H ws vs) : (!ws.isEmpty) = !vs.isEmpty := by
  cases r <;> rfl
theorem truW_ok {K : PySem.W.Frag} {η : List Addr} {H : Hp} {S : Store} {w : W} {v : V} {b : Bool} (e : truW w S = some b) (rp : Rp K η H S) (r : RepW K η H w v) : TruV K v H b := by
  unfold truW at e
  split at e
  · cases r with | d r => cases r; cases e; rfl
  · cases r with | d r => cases r; cases e; rfl
  · cases r with | d r => cases r; cases e; rfl
  · cases r with
    | d r =>
      cases r
      split at e
      · rename_i hz
        cases e
        exact ⟨lim_ok hz, rfl⟩
      · cases e
  · cases r with
    | tp h1 h2 => cases e; exact .inr (.inl ⟨_, h1, isEmpty_rep h2⟩)
  · split at e
    · rename_i ws e1
      obtain ⟨a, vs, rfl, h1, h2⟩ := asSeq_ok e1 rp r
      cases e
      rcases h1 with h1 | h1
      · exact .inl ⟨vs, h1, isEmpty_repD h2⟩
      · exact .inr (.inl ⟨vs, h1, isEmpty_repD h2⟩)
    · cases e
def truR (w : W) (S : Store) : R Bool := match truW w S with
  | some b => .ok b S
  | none => .bad
def fTru (a : FE) : FT := fun ρ S => (a ρ S).bind truR
theorem t_tru {e : Expr} {f : FE} (h : PE X e (tF (gx X ct) E f)) (he : ∀ whole, isTrue e X.env whole = (do let v ← whole; standAt e.pos; holding [v] (truthy v)) := by intro _; rfl) : PT X e (tT (gx X ct) E (fTru f)) := PTw (pt_truth h he) fun σ H Q ⟨η, ρ, S, rp, er, h⟩ =>
  ⟨η, ρ, S, rp, er, FinR.mono (FinR.bind h) fun v H1 ⟨η1, w, S1, f, rp1, r1, h1⟩ => by
    unfold truR at h1
    split at h1
    · rename_i b e
      exact ⟨b, truW_ok e rp1 r1, h1 η1 H1 _ (Fu.refl _ _) rp1 rfl⟩
    · exact h1.elim⟩
def fAndT (a b : FT) : FT := fun ρ S => (a ρ S).bind fun c S1 => if c = true then b ρ S1 else .ok false S1
def fOrT (a b : FT) : FT := fun ρ S => (a ρ S).bind fun c S1 => if c = true then .ok true S1 else b ρ S1
def fNotT (a : FT) : FT := fun ρ S => (a ρ S).bind fun c S1 => .ok (!c) S1
theorem w_and1 {a : Expr} {f : FT} {pos : Pos} (h : PT X a (tT (gx X ct) E f)) : PW X (.BoolOp .And [a] pos) (tT (gx X ct) E f) := pw_and1 h
theorem w_or1 {a : Expr} {f : FT} {pos : Pos} (h : PT X a (tT (gx X ct) E f)) : PW X (.BoolOp .Or [a] pos) (tT (gx X ct) E f) := pw_or1 h
theorem w_and {a b : Expr} {rest : List Expr} {f g : FT} {pos : Pos} (h : PT X a (tT (gx X ct) E f)) (h2 : PW X (.BoolOp .And (b :: rest) pos) (tT (gx X ct) E g)) : PW X (.BoolOp .And (a :: b :: rest) pos) (tT (gx X ct) E (fAndT f g)) :=
  PWw (pw_and h h2) fun σ H Q ⟨η, ρ, S, rp, er, h⟩ => ⟨η, ρ, S, rp, er, FinR.mono (FinR.bind h) fun v H1 ⟨η1, w, S1, f, rp1, r1, h1⟩ => by
    obtain rfl : v = w := r1
    by_cases hc : v = true
    · rw [if_pos hc] at h1 ⊢; exact ⟨η1, ρ, S1, rp1, er.fu f, h1⟩
    · rw [if_neg hc] at h1 ⊢; exact h1 η1 H1 _ (Fu.refl _ _) rp1 rfl⟩
theorem w_or {a b : Expr} {rest : List Expr} {f g : FT} {pos : Pos} (h : PT X a (tT (gx X ct) E f)) (h2 : PW X (.BoolOp .Or (b :: rest) pos) (tT (gx X ct) E g)) : PW X (.BoolOp .Or (a :: b :: rest) pos) (tT (gx X ct) E (fOrT f g)) :=
  PWw (pw_or h h2) fun σ H Q ⟨η, ρ, S, rp, er, h⟩ => ⟨η, ρ, S, rp, er, FinR.mono (FinR.bind h) fun v H1 ⟨η1, w, S1, f, rp1, r1, h1⟩ => by
    obtain rfl : v = w := r1
    by_cases hc : v = true
    · rw [if_pos hc] at h1 ⊢; exact h1 η1 H1 _ (Fu.refl _ _) rp1 rfl
    · rw [if_neg hc] at h1 ⊢; exact ⟨η1, ρ, S1, rp1, er.fu f, h1⟩⟩
theorem t_not {a : Expr} {f : FT} {pos : Pos} (h : PT X a (tT (gx X ct) E f)) : PT X (.UnaryOp .Not a pos) (tT (gx X ct) E (fNotT f)) :=
  PTw (pt_not h) fun σ H Q ⟨η, ρ, S, rp, er, h⟩ => ⟨η, ρ, S, rp, er, FinR.mono (FinR.bind h) fun v H1 ⟨η1, w, S1, f, rp1, r1, h1⟩ => by
    obtain rfl : v = w := r1
    exact h1 η1 H1 _ (Fu.refl _ _) rp1 rfl⟩
/-- as values -/
def fAndV (a b : FE) : FE := fun ρ S => (a ρ S).bind fun w S1 => match w with
  | .d (.bool true) => b ρ S1
  | .d (.bool false) => .ok (.d (.bool false)) S1
  | _ => .bad
def fOrV (a b : FE) : FE := fun ρ S => (a ρ S).bind fun w S1 => match w with
  | .d (.bool true) => .ok (.d (.bool true)) S1
  | .d (.bool false) => b ρ S1
  | _ => .bad
def gNot (w : W) (S : Store) : O := match w with
  | .d (.bool b) => some (.d (.bool (!b)), S)
  | _ => none
theorem i_one {a : Expr} {op : BoolOp} {f : FE} {pos : Pos} (h : PE X a (tF (gx X ct) E f)) : PE X (.BoolOp op [a] pos) (tF (gx X ct) E f) := pe_one h
theorem i_and {a b : Expr} {rest : List Expr} {f g : FE} {pos : Pos} (h : PE X a (tF (gx X ct) E f)) (h2 : PE X (.BoolOp .And (b :: rest) pos) (tF (gx X ct) E g)) : PE X (.BoolOp .And (a :: b :: rest) pos) (tF (gx X ct) E (fAndV f g)) :=
  PEw (pe_and h h2) fun σ H Q ⟨η, ρ, S, rp, er, h⟩ => ⟨η, ρ, S, rp, er, FinR.mono (FinR.bind h) fun v H1 ⟨η1, w, S1, f, rp1, r1, h1⟩ => by
    split at h1
    · cases r1 with | d r1 => cases r1; exact ⟨true, rfl, iteT ⟨η1, ρ, S1, rp1, er.fu f, h1⟩⟩
    · cases r1 with | d r1 => cases r1; exact ⟨false, rfl, iteF (h1 η1 H1 _ (Fu.refl _ _) rp1 (.d (.bool _)))⟩
    · exact h1.elim⟩
theorem i_or {a b : Expr} {rest : List Expr} {f g : FE} {pos : Pos} (h : PE X a (tF (gx X ct) E f)) (h2 : PE X (.BoolOp .Or (b :: rest) pos) (tF (gx X ct) E g)) : PE X (.BoolOp .Or (a :: b :: rest) pos) (tF (gx X ct) E (fOrV f g)) :=
  PEw (pe_or h h2) fun σ H Q ⟨η, ρ, S, rp, er, h⟩ => ⟨η, ρ, S, rp, er, FinR.mono (FinR.bind h) fun v H1 ⟨η1, w, S1, f, rp1, r1, h1⟩ => by
    split at h1
    · cases r1 with | d r1 => cases r1; exact ⟨true, rfl, iteT (h1 η1 H1 _ (Fu.refl _ _) rp1 (.d (.bool _)))⟩
    · cases r1 with | d r1 => cases r1; exact ⟨false, rfl, iteF ⟨η1, ρ, S1, rp1, er.fu f, h1⟩⟩
    · exact h1.elim⟩
theorem i_not {a : Expr} {f : FE} {pos : Pos} (h : PE X a (tF (gx X ct) E f)) : PE X (.UnaryOp .Not a pos) (tF (gx X ct) E (f1 gNot f)) :=
  PEw (pe_not h) (get1 (r := fun x H Q => ∃ c, x = .bl c ∧ Q (.bl (!c)) H) fun x H Q ⟨η, S, wx, rp, rx, q⟩ => by
    unfold gNot at q
    split at q
    · cases rx with | d rx => cases rx; exact ⟨_, rfl, same_val rp (.d (.bool _)) q⟩
    · exact q.elim)
def fIfE (t : FT) (a b : FE) : FE := fun ρ S => (t ρ S).bind fun c S1 => if c = true then a ρ S1 else b ρ S1
theorem i_ife {c a b : Expr} {t : FT} {f g : FE} {pos : Pos} (hc : PT X c (tT (gx X ct) E t)) (ha : PE X a (tF (gx X ct) E f)) (hb : PE X b (tF (gx X ct) E g)) : PE X (.IfExp c a b pos) (tF (gx X ct) E (fIfE t f g)) :=
  PEw (pe_ifExp hc ha hb) fun σ H Q ⟨η, ρ, S, rp, er, h⟩ => ⟨η, ρ, S, rp, er, FinR.mono (FinR.bind h) fun v H1 ⟨η1, w, S1, f, rp1, r1, h1⟩ => by
    obtain rfl : v = w := r1
    by_cases hc : v = true
    · rw [if_pos hc] at h1 ⊢; exact ⟨η1, ρ, S1, rp1, er.fu f, h1⟩
    · rw [if_neg hc] at h1 ⊢; exact ⟨η1, ρ, S1, rp1, er.fu f, h1⟩⟩
/-- a op b op c -/
def fChain (g g' : W → W → Store → O) (a b c : FE) : FE := fun ρ S => (a ρ S).bind fun x S1 => (b ρ S1).bind fun y S2 => (lift (g x y S2)).bind fun k S3 => match k with
  | .d (.bool true) => (c ρ S3).bind fun z S4 => lift (g' y z S4)
  | .d (.bool false) => .ok (.d (.bool false)) S3
  | _ => .bad
theorem i_chain {op op' : CmpOp} {g g' : W → W → Store → O} {a b c : Expr} {fa fb fc : FE} {pos : Pos} (ho : OpR X (compareOp op) (Sim2 X ct g)) (ho' : OpR X (compareOp op') (Sim2 X ct g')) (ha : PE X a (tF (gx X ct) E fa)) (hb : PE X b (tF (gx X ct) E fb)) (hc : PE X c (tF (gx X ct) E fc))
    (hm : lastMarks [op, op'] [b, c] = false := by with_unfolding_all rfl) : PE X (.Compare a [op, op'] [b, c] pos) (tF (gx X ct) E (fChain g g' fa fb fc)) := PEw (pe_chain ho ho' ha hb hc hm) fun σ H Q ⟨η, ρ, S, rp, er, h⟩ =>
  ⟨η, ρ, S, rp, er, FinR.mono (FinR.bind h) fun v H1 ⟨η1, w, S1, f, rp1, r1, h1⟩ =>
    ⟨η1, ρ, S1, rp1, er.fu f, FinR.mono (FinR.bind h1) fun v2 H2 ⟨η2, w2, S2, f2, rp2, r2, h2⟩ => ⟨η2, S2, w, w2, rp2, RepW.fu f2 _ _ r1, r2, by
      have r1' := RepW.fu f2 _ _ r1
      refine FinO.mono (lift_ok (FinR.bind (rel := relW (gx X ct)) h2)) fun z H3 ⟨η3, k, S3, f3, rp3, r3, h3⟩ => ?_
      split at h3
      · cases r3 with
        | d r3 =>
          cases r3
          exact ⟨true, rfl, iteT ⟨η3, ρ, S3, rp3, ((er.fu f).fu f2).fu f3, FinR.mono (FinR.bind h3) fun v4 H4 ⟨η4, w4, S4, f4, rp4, r4, h4⟩ => ⟨η4, S4, w2, w4, rp4, RepW.fu f4 _ _ (RepW.fu f3 _ _ r2), r4, lift_ok h4⟩⟩⟩
      · cases r3 with
        | d r3 =>
          cases r3
          exact ⟨false, rfl, iteF (h3 η3 H3 _ (Fu.refl _ _) rp3 (.d (.bool _)))⟩
      · exact h3.elim⟩⟩⟩
end
end VI
set_option Elab.async false
set_option linter.all false
set_option maxRecDepth 100000
namespace VI
open PySem PySem.Spec PyProof.Rows L2

/-! what a call hands back, without live objects of its own -/
mutual
def frzW (n : Nat) (S : Store) : W → Option W
  | .d x => some (.d x)
  | .fro x => some (.fro x)
  | .loc l => if l < n then some (.loc l) else match S[l]? with
    | some (.lst ds) => some (.d (.list ds))
    | some (.dK kvs) => some (.d (.dict ((.bool true, .none) :: kvs.map fun p => (keyD p.1, p.2))))
    | _ => none
  | .tp ws => (frzWs n S ws).map mkT
  | .lw ws => (frzWs n S ws).map W.lw
  | .er nm ns ws => (frzWs n S ws).map (W.er nm ns)
def frzWs (n : Nat) (S : Store) : List W → Option (List W)
  | [] => some []
  | w :: ws => match frzW n S w, frzWs n S ws with
    | some w', some ws' => some (w' :: ws')
    | _, _ => none
end
def frz (n : Nat) (r : R W) : R W := match r with
  | .ok w S => match frzW n S w with
    | some w' => .ok w' (S.take n)
    | none => .bad
  | .exc c fs S => match frzWs n S (fs.map (·.2)) with
    | some ws => .exc c ((fs.map (·.1)).zip ws) (S.take n)
    | none => .bad
  | .bad => .bad
section
variable {K : PySem.W.Frag} {η η' : List Addr} {H H' : Hp} {S S' : Store}
mutual
theorem RepD.sub' (h : ∀ a ∈ η, a ∈ η') : ∀ {x : PyData} {v : V}, RepD K η' H x v → RepD K η H x v
  | _, _, .none => .none
  | _, _, .bool _ => .bool _
  | _, _, .int _ => .int _
  | _, _, .str _ => .str _
  | _, _, .list h1 h2 h3 => .list h1 (fun m => h2 (h _ m)) (RepDs.sub' h h3)
  | _, _, .tuple h1 h2 => .tuple h1 (RepDs.sub' h h2)
  | _, _, .dct h1 h2 => .dct h1 (fun m => h2 (h _ m))
  | _, _, .own h1 h2 h3 => .own h1 (fun m => h2 (h _ m)) h3
  | _, _, .dctE h1 h2 h3 h4 => .dctE h1 (fun m => h2 (h _ m)) h3 (RepDs.sub' h h4)
  | _, _, .ownE h1 h2 h3 h4 h5 h6 => .ownE h1 h2 h3 (fun m => h4 (h _ m)) (fun m => h5 (h _ m)) h6
theorem RepDs.sub' (h : ∀ a ∈ η, a ∈ η') : ∀ {xs : List PyData} {vs : List V}, RepDs K η' H xs vs → RepDs K η H xs vs
  | _, _, .nil => .nil
  | _, _, .cons h1 h2 => .cons (RepD.sub' h h1) (RepDs.sub' h h2)
end
theorem RepD.sub (h : ∀ a ∈ η, a ∈ η') (x : PyData) (v : V) (r : RepD K η' H x v) : RepD K η H x v := RepD.sub' h r
theorem RepDs.sub (h : ∀ a ∈ η, a ∈ η') (x : List PyData) (v : List V) (r : RepDs K η' H x v) : RepDs K η H x v := RepDs.sub' h r
mutual
theorem RepW.low : ∀ {w : W} {v : V}, RepW K (η ++ η') H w v → locsB η.length w = true → RepW K η H w v
  | _, _, .d h, _ => .d (RepD.sub (fun a m => List.mem_append_left _ m) _ _ h)
  | .loc l, _, .loc h, e => .loc (by
    have hl : l < η.length := of_decide_eq_true e
    rw [List.getElem?_append_left hl] at h
    exact h)
  | _, _, .tp h1 h2, e => .tp h1 (RepWs.low h2 e)
  | _, _, .fro h1 h2, _ => .fro h1 (RepDs.sub (fun a m => List.mem_append_left _ m) _ _ h2)
  | .lw ws, _, .lw h1 h2 h3, e => .lw h1 (fun m => h2 (List.mem_append_left _ m)) (RepWs.low h3 e)
  | .er _ _ _, _, .er h1 h2 h3 h4 h5 h6, e => .er h1 h2 (fun m => h3 (List.mem_append_left _ m)) (fun m => h4 (List.mem_append_left _ m)) h5 (RepWs.low h6 e)
  | .er _ _ _, _, .er0 h1 h2 h3, _ => .er0 h1 (fun m => h2 (List.mem_append_left _ m)) h3
theorem RepWs.low : ∀ {w : List W} {v : List V}, RepWs K (η ++ η') H w v → locsBs η.length w = true → RepWs K η H w v
  | _, _, .nil, _ => .nil
  | _, _, .cons h1 h2, e => by
    rw [locsBs, Bool.and_eq_true] at e
    exact .cons (RepW.low h1 e.1) (RepWs.low h2 e.2)
end
mutual
theorem locsB_le {n m : Nat} (h : n ≤ m) : ∀ w : W, locsB n w = true → locsB m w = true
  | .d _, _ => rfl
  | .fro _, _ => rfl
  | .loc l, e => decide_eq_true (Nat.lt_of_lt_of_le (of_decide_eq_true e) h)
  | .tp ws, e => locsBs_le h ws e
  | .lw ws, e => locsBs_le h ws e
  | .er _ _ ws, e => locsBs_le h ws e
theorem locsBs_le {n m : Nat} (h : n ≤ m) : ∀ w : List W, locsBs n w = true → locsBs m w = true
  | [], _ => rfl
  | w :: ws, e => by
    rw [locsBs, Bool.and_eq_true] at e
    rw [locsBs, locsB_le h w e.1, locsBs_le h ws e.2]
    rfl
end
theorem keyD_map {kvs : List (Key × PyData)} {vs : List (Key × V)} (e : kvs.map (·.1) = vs.map (·.1)) : (kvs.map fun p => (keyD p.1, p.2)).map (·.1) = vs.map fun p => keyD p.1 := by
  have := congrArg (List.map keyD) e
  rw [List.map_map, List.map_map] at this
  rw [List.map_map]
  exact this
theorem RepWs.mk {a : Addr} {ws : List W} {vs : List V} (ha : SqT K H a vs) (r : RepWs K η H ws vs) : RepW K η H (mkT ws) (.ref a) := by
  unfold mkT
  cases q : datas ws with
  | some ds => exact .d (.tuple ha (datas_ok q r))
  | none => exact .tp ha r
mutual
theorem frzW_ok (rp : Rp K (η ++ η') H S) : ∀ (w w' : W) (v : V), frzW η.length S w = some w' → RepW K (η ++ η') H w v → RepW K η H w' v
  | .d x, w', v, e, r => by cases e; cases r with | d r => exact .d (RepD.sub (fun a m => List.mem_append_left _ m) _ _ r)
  | .fro x, w', v, e, r => by cases e; cases r with | fro h1 h2 => exact .fro h1 (RepDs.sub (fun a m => List.mem_append_left _ m) _ _ h2)
  | .loc l, w', v, e, r => by
    cases r with
    | loc r =>
      rw [frzW] at e
      by_cases hl : l < η.length
      · rw [if_pos hl] at e
        cases e
        rw [List.getElem?_append_left hl] at r
        exact .loc r
      · rw [if_neg hl] at e
        cases q : S[l]? with
        | none => rw [q] at e; cases e
        | some o =>
          rw [q] at e
          cases o with
          | lst ds =>
            cases e
            obtain ⟨vs, h1, h2⟩ := rp.all _ _ _ r q
            refine .d (.list h1 (fun m => ?_) (RepDs.sub (fun a m => List.mem_append_left _ m) _ _ h2))
            obtain ⟨j, hj, ej⟩ := List.getElem_of_mem m
            have := nodup_get rp.nd r (show (η ++ η')[j]? = _ by rw [List.getElem?_append_left hj, List.getElem?_eq_getElem hj, ej])
            omega
          | dK kvs =>
            cases e
            obtain ⟨vs, h1, h2, h3⟩ := rp.all _ _ _ r q
            refine .d (.dctE h1 (fun m => ?_) (keyD_map h2) ?_)
            · obtain ⟨j, hj, ej⟩ := List.getElem_of_mem m
              have := nodup_get rp.nd r (show (η ++ η')[j]? = _ by rw [List.getElem?_append_left hj, List.getElem?_eq_getElem hj, ej])
              omega
            · have e : (kvs.map fun p => (keyD p.1, p.2)).map (·.2) = kvs.map (·.2) := by rw [List.map_map]; rfl
              rw [e]
              exact RepDs.sub (fun a m => List.mem_append_left _ m) _ _ h3
          | dT _ => cases e
          | ob _ _ => cases e
          | lw _ => cases e
  | .tp ws, w', v, e, r => by
    cases r with
    | tp h1 h2 =>
      rw [frzW] at e
      cases q : frzWs η.length S ws with
      | none => rw [q] at e; cases e
      | some ws' => rw [q] at e; cases e; exact RepWs.mk h1 (frzWs_ok rp ws ws' _ q h2)
  | .lw ws, w', v, e, r => by
    cases r with
    | lw h1 h0 h2 =>
      rw [frzW] at e
      cases q : frzWs η.length S ws with
      | none => rw [q] at e; cases e
      | some ws' => rw [q] at e; cases e; exact .lw h1 (fun m => h0 (List.mem_append_left _ m)) (frzWs_ok rp ws ws' _ q h2)
  | .er nm ns ws, w', v, e, r => by
    rw [frzW] at e
    cases r with
    | er h1 h2 h3 h4 h5 h6 =>
      cases q : frzWs η.length S ws with
      | none => rw [q] at e; cases e
      | some ws' => rw [q] at e; cases e; exact .er h1 h2 (fun m => h3 (List.mem_append_left _ m)) (fun m => h4 (List.mem_append_left _ m)) h5 (frzWs_ok rp ws ws' _ q h6)
    | er0 h1 h2 h3 =>
      cases e
      exact .er0 h1 (fun m => h2 (List.mem_append_left _ m)) h3
theorem frzWs_ok (rp : Rp K (η ++ η') H S) : ∀ (ws ws' : List W) (vs : List V), frzWs η.length S ws = some ws' → RepWs K (η ++ η') H ws vs → RepWs K η H ws' vs
  | [], ws', vs, e, r => by cases e; cases r; exact .nil
  | w :: ws, ws', vs, e, r => by
    cases r with
    | cons h1 h2 =>
      rw [frzWs] at e
      split at e
      · rename_i a b e1 e2
        cases e
        exact .cons (frzW_ok rp w a _ e1 h1) (frzWs_ok rp ws b _ e2 h2)
      · cases e
end
theorem frzWs_length : ∀ {n : Nat} {S : Store} {ws ws' : List W}, frzWs n S ws = some ws' → ws'.length = ws.length
  | n, S, [], ws', e => by cases e; rfl
  | n, S, w :: ws, ws', e => by
    rw [frzWs] at e
    split at e
    · rename_i a b e1 e2
      cases e
      rw [List.length_cons, List.length_cons, frzWs_length e2]
    · cases e
theorem Rp.cut (rp : Rp K (η ++ η') H S) : Rp K η H (S.take η.length) := by
  have hl : η.length ≤ S.length := by rw [← rp.len, List.length_append]; omega
  have wf : ∀ (l : Nat) (o : SO), (S.take η.length)[l]? = some o → WfO l o := fun l o h2 => by
    have hl1 : l < η.length := by
      have := (List.getElem?_eq_some_iff.mp h2).1
      rw [List.length_take] at this
      omega
    rw [List.getElem?_take_of_lt hl1] at h2
    exact rp.wf l o h2
  refine ⟨by rw [List.length_take]; omega, (List.nodup_append.mp rp.nd).1, fun l a o h1 h2 => ?_, wf⟩
  have hl1 : l < η.length := (List.getElem?_eq_some_iff.mp h1).1
  rw [List.getElem?_take_of_lt hl1] at h2
  have r := rp.all l a o (by rw [List.getElem?_append_left hl1]; exact h1) h2
  have sub : ∀ a ∈ η, a ∈ η ++ η' := fun a m => List.mem_append_left _ m
  cases o with
  | lst ds => obtain ⟨vs, e, r⟩ := r; exact ⟨vs, e, RepDs.sub sub _ _ r⟩
  | dK kvs => obtain ⟨vs, e, e2, r⟩ := r; exact ⟨vs, e, e2, RepDs.sub sub _ _ r⟩
  | dT kvs => obtain ⟨vs, e, e2, r⟩ := r; exact ⟨vs, e, e2, RepDs.sub sub _ _ r⟩
  | ob nm fs =>
    obtain ⟨dx, vs, e, e2, r⟩ := r
    exact ⟨dx, vs, e, e2, RepWs.low r (locsBs_le (Nat.le_of_lt hl1) _ (rp.wf l _ h2))⟩
  | lw ws =>
    obtain ⟨vs, e, r⟩ := r
    exact ⟨vs, e, RepWs.low r (locsBs_le (Nat.le_of_lt hl1) _ (rp.wf l _ h2))⟩
theorem Fu.cut (f : Fu η H (η ++ η') H') : Fu η H η H' := ⟨⟨[], by simp⟩, fun a h => .inl h, f.tk, f.tp, f.fz, f.ls⟩
theorem FinR.frz {ct : Nat → Option Addr} {Z : XK} {r : R W} {Q : VK} (rp0 : Rp K η H S) (h : FinR ⟨K, ct⟩ (relW ⟨K, ct⟩) Z η H (VI.frz S.length r) Q) : FinR ⟨K, ct⟩ (relW ⟨K, ct⟩) Z η H r Q := by
  cases r with
  | bad => exact h
  | ok w S' =>
    intro η2 H2 v f rp r
    obtain ⟨e, rfl⟩ := f.px
    simp only [VI.frz] at h
    rw [← rp0.len] at h
    cases q : frzW η.length S' w with
    | none => rw [q] at h; exact h.elim
    | some w' =>
      rw [q] at h
      exact h η H2 v f.cut rp.cut (frzW_ok rp w w' v q r)
  | exc c fs S' =>
    intro η2 H2 C d vs f rp hc hd hf
    obtain ⟨e, rfl⟩ := f.px
    simp only [VI.frz] at h
    rw [← rp0.len] at h
    cases q : frzWs η.length S' (fs.map (·.2)) with
    | none => rw [q] at h; exact h.elim
    | some ws =>
      rw [q] at h
      have hl : ws.length = fs.length := by rw [frzWs_length q, List.length_map]
      refine h η H2 C d vs f.cut rp.cut hc hd ⟨?_, ?_⟩
      · rw [List.map_fst_zip (by rw [List.length_map, hl]; exact Nat.le_refl _)]
        exact hf.1
      · rw [List.map_snd_zip (by rw [List.length_map, hl]; exact Nat.le_refl _)]
        exact frzWs_ok rp _ _ _ q hf.2
end

/-! what a def promises, where nothing is being shown -/
structure FnG (P : Program) (w : World) (K : PySem.W.Frag) (mg : Str → Option Value) (base : Heap) (CX : CXT) (k : Nat) (f : Addr) (fd : FuncData) (ps : List Str) (sp : Sp) : Prop where
  len : ∀ vs H Q E, sp vs H Q E → vs.length = ps.length
  run : ∀ (A : Around) (outer : List Env) (s : Shared) (H : Hp) (args : Args) (us : List Value) (vs : List V) (Q : VK) (E : XK), Room k A → A.guards = some [] → Env0 P w K mg base A outer s H → BindsTo s fd args (ps.zip us) → Vals vs us → sp vs H Q E →
    codeAny (model P w) A (.call (.ref f) args) (CR CX outer P w H s Q E) s
theorem deeper_guards {A : Around} {env : Env} (h : A.guards = some []) : (A.deeper env).guards = some [] := h
def spG (G : Gc) (n : Nat) (g : List W → Store → R W) : Sp := fun vs H Q E => vs.length = n ∧ ∃ η S ws, Rp G.K η H S ∧ RepWs G.K η H ws vs ∧ FinR G (relW G) E η H (g ws S) Q
section
variable {X : Cx} {ct : Nat → Option Addr} {CX : CXT} {k : Nat} {f : Addr} {fd : FuncData} {ps : List Str} {sp : Sp} {Z : XK} {x : Str} {p pos : Pos} {e : Expr} {es : List Expr} {ta : TA}
theorem run_fnG {pins : List (Addr × Obj)} {σ : L2.St} {H : Hp} {s : Shared} {Q : VK} {us : List Value} {vs : List V} (F : FnG X.prog X.w X.K X.mg X.base CX k f fd ps sp) (hr : Room k X.A) (hgd : X.A.guards = some []) (hb : Binds X.K fd ps []) (hx : Passes CX X Z)
    (I : Inv X pins σ H s) (r : Vals vs us) (h : sp vs H Q Z) : wpAny (model X.prog X.w) X.A (call (.ref f) us) (EP X pins σ Q) X.xe s := by
  have hl : (us ++ []).length = ps.length := by rw [List.append_nil, ← r.length]; exact F.len _ _ _ _ h
  have hb' := hb s us I.kIn hl
  rw [List.append_nil] at hb'
  refine wpAny_call (codeAny_mono (F.run X.A X.stack s H ⟨us, []⟩ us vs Q Z hr hgd I.env0 hb' r h) fun r s' hq => ?_)
  cases r with
  | error e => exact hx pins σ H s e s' I hq
  | ok fl =>
    cases fl with
    | ret u => exact I.after hq
    | next => exact False.elim hq
    | brk => exact False.elim hq
    | cont => exact False.elim hq
theorem pe_callG (F : FnG X.prog X.w X.K X.mg X.base CX k f fd ps sp) (hr : Room k X.A) (hgd : X.A.guards = some []) (hg : Gl X x) (hm : X.mg x = some (.ref f)) (hk : PySem.W.keepIn X.K (.ref f) = true) (hb : Binds X.K fd ps []) (hx : Passes CX X Z)
    (ha : PA X (e :: es) ta) (hdb : (x == ("__debug__" : Str)) = false := by decide) (he : starEach (e :: es) X.env = (false, eval e X.env) :: starEach es X.env := by rfl) (hpl : (backTo pos (starEach es X.env)).any (·.1) = false := by rfl) :
    PE X (.Call (.Name x p) (e :: es) [] pos) (fun σ H Q => ta σ H fun vs H1 => sp vs H1 Q Z) := by
  refine ⟨fun pins s σ H Q I h => ?_⟩
  refine wpAny_Call_Name_kw (ld_glob I hg hm ?_ hdb)
  refine PySem.W.callWith_K (h₀ := X.base) I.ok.mod.kin hk (thn (ha.run pos pins s σ H _ I h) fun us s1 ⟨vs, H1, I1, r, q⟩ => ⟨I1.kIn, ?_⟩) he hpl
  exact run_fnG F hr hgd hb hx I1 r q
theorem pe_callG0 (F : FnG X.prog X.w X.K X.mg X.base CX k f fd ps sp) (hr : Room k X.A) (hgd : X.A.guards = some []) (hg : Gl X x) (hm : X.mg x = some (.ref f)) (hk : PySem.W.keepIn X.K (.ref f) = true) (hb : Binds X.K fd ps []) (hx : Passes CX X Z)
    (hdb : (x == ("__debug__" : Str)) = false := by decide) : PE X (.Call (.Name x p) [] [] pos) (fun σ H Q => sp [] H Q Z) := by
  refine ⟨fun pins s σ H Q I h => ?_⟩
  refine wpAny_Call_Name_kw (ld_glob I hg hm ?_ hdb)
  exact PySem.W.callWith_K0 I.kIn hk (run_fnG (us := []) F hr hgd hb hx I .nil h)
/-- a call whose live objects end -/
def fCall (n : Nat) (g : List W → Store → R W) (a : FA) : FE := fun ρ S => (a ρ S).bind fun ws S1 => if ws.length = n then frz S1.length (g ws S1) else .bad
/-- .. whose live objects go on -/
def fCallL (n : Nat) (g : List W → Store → R W) (a : FA) : FE := fun ρ S => (a ρ S).bind fun ws S1 => if ws.length = n then g ws S1 else .bad
variable {n : Nat} {g : List W → Store → R W} {fa : FA}
theorem i_callL (F : FnG X.prog X.w X.K X.mg X.base CX k f fd ps (spG (gx X ct) n g)) (hr : Room k X.A) (hgd : X.A.guards = some []) (hg : Gl X x) (hm : X.mg x = some (.ref f)) (hk : PySem.W.keepIn X.K (.ref f) = true) (hb : Binds X.K fd ps []) (hx : Passes CX X Z)
    (ha : PA X (e :: es) (tA (gx X ct) (fun _ => Z) fa)) (hdb : (x == ("__debug__" : Str)) = false := by decide) (he : starEach (e :: es) X.env = (false, eval e X.env) :: starEach es X.env := by rfl) (hpl : (backTo pos (starEach es X.env)).any (·.1) = false := by rfl) :
    PE X (.Call (.Name x p) (e :: es) [] pos) (tF (gx X ct) (fun _ => Z) (fCallL n g fa)) := PEw (pe_callG F hr hgd hg hm hk hb hx ha hdb he hpl) fun σ H Q ⟨η, ρ, S, rp, er, h⟩ =>
  ⟨η, ρ, S, rp, er, FinR.mono (FinR.bind h) fun v H1 ⟨η1, ws, S1, f1, rp1, r1, h1⟩ => by
    by_cases hn : ws.length = n
    · rw [if_pos hn] at h1
      exact ⟨by rw [← r1.length]; exact hn, η1, S1, ws, rp1, r1, h1⟩
    · rw [if_neg hn] at h1
      exact h1.elim⟩
theorem i_call (F : FnG X.prog X.w X.K X.mg X.base CX k f fd ps (spG (gx X ct) n g)) (hr : Room k X.A) (hgd : X.A.guards = some []) (hg : Gl X x) (hm : X.mg x = some (.ref f)) (hk : PySem.W.keepIn X.K (.ref f) = true) (hb : Binds X.K fd ps []) (hx : Passes CX X Z)
    (ha : PA X (e :: es) (tA (gx X ct) (fun _ => Z) fa)) (hdb : (x == ("__debug__" : Str)) = false := by decide) (he : starEach (e :: es) X.env = (false, eval e X.env) :: starEach es X.env := by rfl) (hpl : (backTo pos (starEach es X.env)).any (·.1) = false := by rfl) :
    PE X (.Call (.Name x p) (e :: es) [] pos) (tF (gx X ct) (fun _ => Z) (fCall n g fa)) := PEw (pe_callG F hr hgd hg hm hk hb hx ha hdb he hpl) fun σ H Q ⟨η, ρ, S, rp, er, h⟩ =>
  ⟨η, ρ, S, rp, er, FinR.mono (FinR.bind h) fun v H1 ⟨η1, ws, S1, f1, rp1, r1, h1⟩ => by
    by_cases hn : ws.length = n
    · rw [if_pos hn] at h1
      exact ⟨by rw [← r1.length]; exact hn, η1, S1, ws, rp1, r1, FinR.frz rp1 h1⟩
    · rw [if_neg hn] at h1
      exact h1.elim⟩
end

/-! built-in functions and types, called -/
section
variable {X : Cx} {ct : Nat → Option Addr} {E : EX} {x : Str} {p pos : Pos} {e : Expr} {es : List Expr} {id T : String} {g : List W → Store → O} {fa : FA}
theorem i_callB (hc : CallR X (.builtin id) (SimL X ct g)) (hg : Gl X x) (hm : X.mg x = none) (hv : bootBuiltins x = some (.builtin id)) (ha : PA X (e :: es) (tA (gx X ct) E fa)) (hn : x ≠ "__name__" := by decide) (hdb : (x == ("__debug__" : Str)) = false := by decide)
    (he : starEach (e :: es) X.env = (false, eval e X.env) :: starEach es X.env := by rfl) (hpl : (backTo pos (starEach es X.env)).any (·.1) = false := by rfl) : PE X (.Call (.Name x p) (e :: es) [] pos) (tF (gx X ct) E (fL g fa)) :=
  PEw (pe_callB hc hg hm hv ha hn hdb he hpl) (getL fun _ _ _ h => h)
theorem i_callT (hc : CallR X (.type T) (SimL X ct g)) (hg : Gl X x) (hm : X.mg x = none) (hv : bootBuiltins x = some (.type T)) (ha : PA X (e :: es) (tA (gx X ct) E fa)) (hn : x ≠ "__name__" := by decide) (hdb : (x == ("__debug__" : Str)) = false := by decide)
    (he : starEach (e :: es) X.env = (false, eval e X.env) :: starEach es X.env := by rfl) (hpl : (backTo pos (starEach es X.env)).any (·.1) = false := by rfl) : PE X (.Call (.Name x p) (e :: es) [] pos) (tF (gx X ct) E (fL g fa)) :=
  PEw (pe_callTy hc hg hm hv ha hn hdb he hpl) (getL fun _ _ _ h => h)
theorem CallR.fit {f : Value} {r r' : List V → Hp → VK → Prop} (h : CallR X f r) (i : ∀ xs H Q, r' xs H Q → r xs H Q) : CallR X f r' := fun pins s σ H xs us Q I r q => h pins s σ H xs us Q I r (i _ _ _ q)
theorem repWs1 {K : PySem.W.Frag} {η : List Addr} {H : Hp} {w : W} {vs : List V} (r : RepWs K η H [w] vs) : ∃ v, vs = [v] ∧ RepW K η H w v := by
  cases r with
  | cons h1 h2 => cases h2; exact ⟨_, rfl, h1⟩
theorem repWs2 {K : PySem.W.Frag} {η : List Addr} {H : Hp} {w u : W} {vs : List V} (r : RepWs K η H [w, u] vs) : ∃ v v', vs = [v, v'] ∧ RepW K η H w v ∧ RepW K η H u v' := by
  cases r with
  | cons h1 h2 =>
    obtain ⟨v', rfl, h3⟩ := repWs1 h2
    exact ⟨_, _, rfl, h1, h3⟩
def gLen (ws : List W) (S : Store) : O := match ws with
  | [.d (.str y)] => if y.length ≤ lim then some (.d (.int y.length), S) else none
  | [.tp xs] => some (.d (.int xs.length), S)
  | [w] => match asSeq w S with
    | some xs => some (.d (.int xs.length), S)
    | none => none
  | _ => none
theorem c_len : CallR X (.builtin "len") (SimL X ct gLen) := CallR.fit call_len fun xs H Q ⟨η, S, ws, rp, rr, q⟩ => by
  unfold gLen at q
  split at q
  · obtain ⟨v, rfl, r⟩ := repWs1 rr
    cases r with
    | d r =>
      cases r
      split at q
      · rename_i hz
        exact ⟨_, _, rfl, ⟨lim_ok hz, rfl⟩, same_val rp (.d (.int _)) q⟩
      · exact q.elim
  · obtain ⟨v, rfl, r⟩ := repWs1 rr
    cases r with
    | tp h1 h2 => exact ⟨_, _, rfl, .inr ⟨_, h1, rfl⟩, by rw [← h2.length]; exact same_val rp (.d (.int _)) q⟩
  · obtain ⟨v, rfl, r⟩ := repWs1 rr
    split at q
    · rename_i xs e
      obtain ⟨a, vs, rfl, h1, h2⟩ := asSeq_ok e rp r
      refine ⟨_, vs.length, rfl, ?_, by rw [← h2.length]; exact same_val rp (.d (.int _)) q⟩
      rcases h1 with h1 | h1
      · exact .inl ⟨_, h1, rfl⟩
      · exact .inr ⟨_, h1, rfl⟩
    · exact q.elim
  · exact q.elim
/-- list(x): of pure data -/
def gList (ws : List W) (S : Store) : O := match ws with
  | [w] => match asSeq w S with
    | some xs => some (.d (.list xs), S)
    | none => none
  | _ => none
def gListL (ws : List W) (S : Store) : O := match ws with
  | [w] => match asSeq w S with
    | some xs => some (.loc S.length, S ++ [.lst xs])
    | none => none
  | _ => none
theorem c_list : CallR X (.type "list") (SimL X ct gList) := CallR.fit call_list_of fun xs H Q ⟨η, S, ws, rp, rr, q⟩ => by
  unfold gList at q
  split at q
  · obtain ⟨v, rfl, r⟩ := repWs1 rr
    split at q
    · rename_i xs e
      obtain ⟨a, vs, rfl, h1, h2⟩ := asSeq_ok e rp r
      exact ⟨a, vs, rfl, h1, new_list rp h2 q⟩
    · exact q.elim
  · exact q.elim
theorem c_listL : CallR X (.type "list") (SimL X ct gListL) := CallR.fit call_list_of fun xs H Q ⟨η, S, ws, rp, rr, q⟩ => by
  unfold gListL at q
  split at q
  · obtain ⟨v, rfl, r⟩ := repWs1 rr
    split at q
    · rename_i xs e
      obtain ⟨a, vs, rfl, h1, h2⟩ := asSeq_ok e rp r
      exact ⟨a, vs, rfl, h1, new_live rp h2 q⟩
    · exact q.elim
  · exact q.elim
def gTuple (ws : List W) (S : Store) : O := match ws with
  | [.tp xs] => some (.tp xs, S)
  | [w] => match asSeq w S with
    | some xs => some (.d (.tuple xs), S)
    | none => none
  | _ => none
theorem c_tuple : CallR X (.type "tuple") (SimL X ct gTuple) := CallR.fit call_tuple_of fun xs H Q ⟨η, S, ws, rp, rr, q⟩ => by
  unfold gTuple at q
  split at q
  · obtain ⟨v, rfl, r⟩ := repWs1 rr
    cases r with
    | tp h1 h2 => exact ⟨_, _, rfl, .inr ⟨h1, same_val rp (.tp h1 h2) q⟩⟩
  · obtain ⟨v, rfl, r⟩ := repWs1 rr
    split at q
    · rename_i xs e
      obtain ⟨a, vs, rfl, h1, h2⟩ := asSeq_ok e rp r
      rcases h1 with h1 | h1
      · exact ⟨a, vs, rfl, .inl ⟨h1, new_tup rp h2 q⟩⟩
      · exact ⟨a, vs, rfl, .inr ⟨h1, same_val rp (.d (.tuple h1 h2)) q⟩⟩
    · exact q.elim
  · exact q.elim
def gAbs (ws : List W) (S : Store) : O := match ws with
  | [.d (.int i)] => some (.d (.int (if i < 0 then -i else i)), S)
  | _ => none
theorem c_abs : CallR X (.builtin "abs") (SimL X ct gAbs) := CallR.fit call_abs fun xs H Q ⟨η, S, ws, rp, rr, q⟩ => by
  unfold gAbs at q
  split at q
  · obtain ⟨v, rfl, r⟩ := repWs1 rr
    cases r with | d r => cases r; exact ⟨_, rfl, same_val rp (.d (.int _)) q⟩
  · exact q.elim
def gInt (ws : List W) (S : Store) : O := match ws with
  | [.d (.int i)] => some (.d (.int i), S)
  | [.d (.bool b)] => some (.d (.int (if b then 1 else 0)), S)
  | _ => none
theorem c_int : CallR X (.type "int") (SimL X ct gInt) := CallR.fit call_int1 fun xs H Q ⟨η, S, ws, rp, rr, q⟩ => by
  unfold gInt at q
  split at q
  · obtain ⟨v, rfl, r⟩ := repWs1 rr
    cases r with | d r => cases r; exact .inl ⟨_, rfl, same_val rp (.d (.int _)) q⟩
  · obtain ⟨v, rfl, r⟩ := repWs1 rr
    cases r with | d r => cases r; exact .inr ⟨_, rfl, same_val rp (.d (.int _)) q⟩
  · exact q.elim
def gMax2 (ws : List W) (S : Store) : O := match ws with
  | [.d (.int i), .d (.int j)] => some (.d (.int (if j > i then j else i)), S)
  | _ => none
theorem c_max2 (hc : X.calm = true) : CallR X (.builtin "max") (SimL X ct gMax2) := CallR.fit (call_max2 hc) fun xs H Q ⟨η, S, ws, rp, rr, q⟩ => by
  unfold gMax2 at q
  split at q
  · obtain ⟨v, v', rfl, r, r'⟩ := repWs2 rr
    cases r with
    | d r =>
      cases r' with
      | d r' =>
        cases r
        cases r'
        exact ⟨_, _, rfl, same_val rp (.d (.int _)) q⟩
  · exact q.elim
/-- the ints of a list -/
def intsD : List PyData → Option (List Int)
  | [] => some []
  | .int i :: r => (intsD r).map (i :: ·)
  | _ :: _ => none
theorem intsD_ok {K : PySem.W.Frag} {η : List Addr} {H : Hp} : ∀ {ds : List PyData} {vs : List V} {ns : List Int}, intsD ds = some ns → RepDs K η H ds vs → vs = ns.map V.int
  | [], vs, ns, e, r => by cases e; cases r; rfl
  | .int i :: ds, vs, ns, e, r => by
    cases r with
    | cons h1 h2 =>
      cases h1
      cases q : intsD ds with
      | none => rw [intsD, q] at e; cases e
      | some ms => rw [intsD, q] at e; cases e; rw [intsD_ok q h2]; rfl
  | .none :: _, vs, ns, e, r => by cases e
  | .bool _ :: _, vs, ns, e, r => by cases e
  | .str _ :: _, vs, ns, e, r => by cases e
  | .list _ :: _, vs, ns, e, r => by cases e
  | .tuple _ :: _, vs, ns, e, r => by cases e
  | .dict _ :: _, vs, ns, e, r => by cases e
theorem intsD_map : ∀ ns : List Int, intsD (ns.map PyData.int) = some ns
  | [] => rfl
  | x :: xs => by rw [List.map_cons, intsD, intsD_map xs]; rfl
def asLst (w : W) (S : Store) : Option (List PyData) := match w with
  | .d (.tuple _) => none
  | w => asSeq w S
theorem asLst_ok {K : PySem.W.Frag} {η : List Addr} {H : Hp} {S : Store} {w : W} {v : V} {xs : List PyData} (e : asLst w S = some xs) (rp : Rp K η H S) (r : RepW K η H w v) : ∃ a vs, v = .ref a ∧ SqL K H a vs ∧ RepDs K η H xs vs := by
  unfold asLst at e
  split at e
  · cases e
  · rename_i n
    exact asSeq_list e (fun ys q => n ys q) rp r
def gSum (ws : List W) (S : Store) : O := match ws with
  | [w] => match asLst w S with
    | some xs => match intsD xs with
      | some ns => some (.d (.int ns.sum), S)
      | none => none
    | none => none
  | _ => none
theorem c_sum (hc : X.calm = true) : CallR X (.builtin "sum") (SimL X ct gSum) := CallR.fit (cr_sum hc) fun xs H Q ⟨η, S, ws, rp, rr, q⟩ => by
  unfold gSum at q
  split at q
  · obtain ⟨v, rfl, r⟩ := repWs1 rr
    split at q
    · rename_i xs e
      obtain ⟨a, vs, rfl, h1, h2⟩ := asLst_ok e rp r
      split at q
      · rename_i ns e2
        have := intsD_ok e2 h2
        subst this
        exact ⟨a, ns, rfl, h1, same_val rp (.d (.int _)) q⟩
      · exact q.elim
    · exact q.elim
  · exact q.elim
/-! repr -/
theorem isRef_of {h : Heap} {u : Value} {d : PyData} {as : List Addr} (r : Reads h u d as) : (∃ a, u = .ref a) ∨ (d = .none ∧ u = .none) ∨ (∃ b, d = .bool b ∧ u = .bool b) ∨ (∃ i t, d = .int i ∧ u = .int i t) ∨ ∃ x t, d = .str x ∧ u = .str x t := by
  cases r with
  | none => exact .inr (.inl ⟨rfl, rfl⟩)
  | bool b => exact .inr (.inr (.inl ⟨b, rfl, rfl⟩))
  | int i t => exact .inr (.inr (.inr (.inl ⟨i, t, rfl, rfl⟩)))
  | str x t => exact .inr (.inr (.inr (.inr ⟨x, t, rfl, rfl⟩)))
  | list _ _ _ _ => exact .inl ⟨_, rfl⟩
  | tuple _ _ _ _ => exact .inl ⟨_, rfl⟩
  | dict _ _ _ _ _ => exact .inl ⟨_, rfl⟩
def noDict (d : PyData) : Bool := !d.hasDict
def gRepr (ws : List W) (S : Store) : O := match ws with
  | [w] => match asD w S with
    | some d => if d.showable = true ∧ d.hasDict = false ∧ d.depth ≤ 64 ∧ d.shown.length ≤ lim then some (.d (.str d.shown), S) else none
    | none => none
  | _ => none
theorem c_repr (hg : X.A.guards = some []) (hu : X.A.units + 65 < cLine) : CallR X (.builtin "repr") (SimL X ct gRepr) := by
  intro pins s σ H xs us Q I rv ⟨η, S, ws, rp, rr, q⟩
  unfold gRepr at q
  split at q
  · obtain ⟨v, rfl, r⟩ := repWs1 rr
    obtain ⟨u, rfl, ru⟩ := vals1 rv
    split at q
    · rename_i d e
      split at q
      · rename_i hz
        obtain ⟨hs, hd, hk, hz⟩ := hz
        have q' : Q (.str d.shown) H := same_val rp (.d (.str _)) q
        obtain ⟨as, rd⟩ := Dp.reads I d v u (asD_ok e hd rp r) ru
        rcases isRef_of rd with ⟨a, rfl⟩ | ⟨rfl, rfl⟩ | ⟨b, rfl, rfl⟩ | ⟨i, t, rfl, rfl⟩ | ⟨x, t, rfl, rfl⟩
        · exact repr_of_reads' rd hs (PyData.noDict_hsm hd) hg (by omega) (fun _ _ e => e) (fun h' u tk hk => ⟨.str d.shown, H, I.kept hk, ⟨_, rfl⟩, q'⟩) (lim_ok hz)
        · exact PySem.P.repr_of_none ⟨.str (PyData.shown .none), H, I.tok _, ⟨_, rfl⟩, q'⟩
        · exact PySem.P.repr_of_bool ⟨.str (PyData.shown (.bool b)), H, I.tok _, ⟨_, by cases b <;> rfl⟩, q'⟩
        · exact PySem.P.repr_of_int (of_decide_eq_true hs) ⟨.str (PyData.shown (.int i)), H, I.tok _, ⟨_, rfl⟩, q'⟩
        · exact PySem.P.repr_of_str ⟨.str (PyData.shown (.str x)), H, I.tok _, ⟨_, rfl⟩, q'⟩ (lim_ok hz)
      · exact q.elim
    · exact q.elim
  · exact q.elim
end
end VI
set_option Elab.async false
set_option linter.all false
set_option maxRecDepth 100000
namespace VI
open PySem PySem.Spec PyProof.Rows L2

/-! targets -/
abbrev FG := W → Rho → Option Rho
abbrev FGs := List W → Rho → Option Rho
def tG (G : Gc) (g : FG) : TG := fun v σ H Q => ∃ η ρ w ρ', RepW G.K η H w v ∧ ERep G.K η H ρ σ ∧ g w ρ = some ρ' ∧ ∀ σ', ERep G.K η H ρ' σ' → Q σ' H
def tGs (G : Gc) (g : FGs) : TGs := fun vs σ H Q => ∃ η ρ ws ρ', RepWs G.K η H ws vs ∧ ERep G.K η H ρ σ ∧ g ws ρ = some ρ' ∧ ∀ σ', ERep G.K η H ρ' σ' → Q σ' H
theorem PGw {X : Cx} {e : Expr} {t t' : TG} (h : PG X e t) (i : ∀ v σ H Q, t' v σ H Q → t v σ H Q) : PG X e t' := ⟨fun pins s σ H v u Q I r q => h.run pins s σ H v u Q I r (i v σ H Q q)⟩
theorem PGsw {X : Cx} {e : List Expr} {t t' : TGs} (h : PGs X e t) (i : ∀ v σ H Q, t' v σ H Q → t v σ H Q) : PGs X e t' := ⟨fun pins s σ H v u Q I r q => h.run pins s σ H v u Q I r (i v σ H Q q)⟩
def gtName (i : Nat) : FG := fun w ρ => some (ρ.set i (some w))
def gtNil : FGs := fun ws ρ => match ws with
  | [] => some ρ
  | _ => none
def gtCons (g : FG) (r : FGs) : FGs := fun ws ρ => match ws with
  | w :: ws => match g w ρ with
    | some ρ1 => r ws ρ1
    | none => none
  | [] => none
def gtTup (n : Nat) (r : FGs) : FG := fun w ρ => match asTW w with
  | some ws => if ws.length = n then r ws ρ else none
  | none => none
section
variable {X : Cx} {ct : Nat → Option Addr} {E : EX}
theorem g_name (i : Nat) {x : Str} {pos : Pos} (hN : X.N.Nodup) (hi : X.N[i]? = some x := by rfl) (hx : Loc X.env.scope x := by first | exact Or.inl rfl | exact Or.inr rfl) (hf : X.fn x = true ∨ X.env.scope.names.lookup x = some .local := by first | exact .inl rfl | exact .inr rfl) :
    PG X (.Name x pos) (tG (gx X ct) (gtName i)) := PGw (pg_name hN hi hx hf) fun v σ H Q ⟨η, ρ, w, ρ', r, er, e, h⟩ => by
  cases e
  exact h _ (er.set r)
theorem gs_nil : PGs X [] (tGs (gx X ct) gtNil) := PGsw pgs_nil fun v σ H Q ⟨η, ρ, w, ρ', r, er, e, h⟩ => by
  unfold gtNil at e
  split at e
  · cases e
    cases r
    exact ⟨rfl, h _ er⟩
  · cases e
theorem gs_cons {e : Expr} {es : List Expr} {g : FG} {gs : FGs} (h1 : PG X e (tG (gx X ct) g)) (h2 : PGs X es (tGs (gx X ct) gs)) (hs : (assignEach (e :: es) X.env).map (·.2) = assign e X.env :: (assignEach es X.env).map (·.2) := by rfl) :
    PGs X (e :: es) (tGs (gx X ct) (gtCons g gs)) := PGsw (pgs_cons h1 h2 hs) fun v σ H Q ⟨η, ρ, w, ρ', r, er, e, h⟩ => by
  unfold gtCons at e
  split at e
  · rename_i w0 ws
    cases r with
    | cons r1 r2 =>
      split at e
      · rename_i ρ1 e1
        exact ⟨_, _, rfl, η, ρ, w0, ρ1, r1, er, e1, fun σ1 er1 => ⟨η, ρ1, ws, ρ', r2, er1, e, h⟩⟩
      · cases e
  · cases e
theorem g_tup {es : List Expr} {k n : Nat} {pos : Pos} {gs : FGs} (hc : X.calm = true) (h : PGs X es (tGs (gx X ct) gs)) (hn : (assignEach es X.env).length = n := by rfl) (hst : (assignEach es X.env).findIdx? (·.1) = none := by rfl) :
    PG X (.Tuple es k pos) (tG (gx X ct) (gtTup n gs)) := PGw (pg_tup hc h hn hst) fun v σ H Q ⟨η, ρ, w, ρ', r, er, e, h⟩ => by
  unfold gtTup at e
  split at e
  · rename_i ws e1
    obtain ⟨a, vs, rfl, h1, h2⟩ := asTW_ok e1 r
    split at e
    · rename_i hl
      exact ⟨a, vs, rfl, h1, by rw [← h2.length]; exact hl, η, ρ, ws, ρ', h2, er, e, h⟩
    · cases e
  · cases e

/-! small statements -/
def fNext : FS := fun ρ S => .next ρ S
def fSeq (a b : FS) : FS := fun ρ S => match a ρ S with
  | .next ρ1 S1 => b ρ1 S1
  | r => r
theorem s_nil : PSs X [] (tS (gx X ct) E fNext) := PSsw pss_nil fun D σ H ⟨η, ρ, S, rp, er, h⟩ => h η H σ (Fu.refl _ _) rp er
theorem s_one {st : Stmt} {f : FS} (h : PS X st (tS (gx X ct) E f)) : PSs X [st] (tS (gx X ct) E f) := pss_one h
theorem s_cons {st : Stmt} {rest : List Stmt} {f g : FS} (h : PS X st (tS (gx X ct) E f)) (h2 : PSs X rest (tS (gx X ct) E g)) : PSs X (st :: rest) (tS (gx X ct) E (fSeq f g)) := PSsw (pss_cons h h2) fun D σ H ⟨η, ρ, S, rp, er, h⟩ => by
  refine ⟨η, ρ, S, rp, er, ?_⟩
  unfold fSeq at h
  cases e : f ρ S with
  | next ρ1 S1 => rw [e] at h; exact fun η1 H1 σ1 f1 rp1 er1 => ⟨η1, ρ1, S1, rp1, er1, FinS.fu f1 h⟩
  | ret w S1 => rw [e] at h; exact h
  | brk ρ1 S1 => rw [e] at h; exact h
  | cnt ρ1 S1 => rw [e] at h; exact h
  | exc c fs ρ1 S1 => rw [e] at h; exact h
  | bad => rw [e] at h; exact h
def fBrk : FS := fun ρ S => .brk ρ S
def fCnt : FS := fun ρ S => .cnt ρ S
theorem s_pass {pos : Pos} : PS X (.Pass pos) (tS (gx X ct) E fNext) := PSw ps_pass fun D σ H ⟨η, ρ, S, rp, er, h⟩ => h η H σ (Fu.refl _ _) rp er
theorem s_brk {pos : Pos} : PS X (.Break pos) (tS (gx X ct) E fBrk) := PSw ps_break fun D σ H ⟨η, ρ, S, rp, er, h⟩ => h η H σ (Fu.refl _ _) rp er
theorem s_cnt {pos : Pos} : PS X (.Continue pos) (tS (gx X ct) E fCnt) := PSw ps_continue fun D σ H ⟨η, ρ, S, rp, er, h⟩ => h η H σ (Fu.refl _ _) rp er
def fDrop (a : FE) : FS := fun ρ S => toS ρ (a ρ S) fun _ S1 => .next ρ S1
theorem s_expr {e : Expr} {pos : Pos} {f : FE} (he : PE X e (tF (gx X ct) E f)) (hs : swapsWith e none pos.line X.env = pure false := by rfl) : PS X (.Expr e pos) (tS (gx X ct) E (fDrop f)) := PSw (ps_expr he hs) fun D σ H ⟨η, ρ, S, rp, er, h⟩ =>
  ⟨η, ρ, S, rp, er, FinR.mono (FinS.bind er h) fun v H1 ⟨η1, w, S1, f1, rp1, r1, h1⟩ => h1 η1 H1 σ (Fu.refl _ _) rp1 (er.fu f1)⟩
def fRet (a : FE) : FS := fun ρ S => toS ρ (a ρ S) fun w S1 => .ret w S1
theorem s_ret {e : Expr} {pos : Pos} {f : FE} (he : PE X e (tF (gx X ct) E f)) : PS X (.Return (some e) pos) (tS (gx X ct) E (fRet f)) := PSw (ps_ret he) fun D σ H ⟨η, ρ, S, rp, er, h⟩ =>
  ⟨η, ρ, S, rp, er, FinR.mono (FinS.bind er h) fun v H1 ⟨η1, w, S1, f1, rp1, r1, h1⟩ => h1 η1 H1 v (Fu.refl _ _) rp1 r1⟩
def fRetN : FS := fun ρ S => .ret (.d .none) S
theorem s_retN {pos : Pos} : PS X (.Return none pos) (tS (gx X ct) E fRetN) := PSw ps_retN fun D σ H ⟨η, ρ, S, rp, er, h⟩ => h η H .non (Fu.refl _ _) rp (.d .none)
def fIf (c : FT) (a b : FS) : FS := fun ρ S => toS ρ (c ρ S) fun k S1 => if k = true then a ρ S1 else b ρ S1
theorem s_if {c : Expr} {a b : List Stmt} {pos : Pos} {t : FT} {f g : FS} (hc : PT X c (tT (gx X ct) E t)) (ha : PSs X a (tS (gx X ct) E f)) (hb : PSs X b (tS (gx X ct) E g)) : PS X (.If c a b pos) (tS (gx X ct) E (fIf t f g)) :=
  PSw (ps_if hc ha hb) fun D σ H ⟨η, ρ, S, rp, er, h⟩ => ⟨η, ρ, S, rp, er, FinR.mono (FinS.bind (rel := relB) er h) fun v H1 ⟨η1, w, S1, f1, rp1, r1, h1⟩ => by
    obtain rfl : v = w := r1
    by_cases hv : v = true
    · rw [if_pos hv] at h1 ⊢; exact ⟨η1, ρ, S1, rp1, er.fu f1, h1⟩
    · rw [if_neg hv] at h1 ⊢; exact ⟨η1, ρ, S1, rp1, er.fu f1, h1⟩⟩
/-- target = value -/
def fAsg (a : FE) (g : FG) : FS := fun ρ S => toS ρ (a ρ S) fun w S1 => match g w ρ with
  | some ρ1 => .next ρ1 S1
  | none => .bad
theorem asg_key {f : FE} {g : FG} {D : Ends} {σ : L2.St} {H : Hp} (h : tS (gx X ct) E (fAsg f g) D σ H) : tF (gx X ct) E f σ H fun x H1 => tG (gx X ct) g x σ H1 D.nx := by
  obtain ⟨η, ρ, S, rp, er, h⟩ := h
  exact ⟨η, ρ, S, rp, er, FinR.mono (FinS.bind er h) fun v H1 ⟨η1, w, S1, f1, rp1, r1, h1⟩ => by
    split at h1
    · rename_i ρ1 e
      exact ⟨η1, ρ, w, ρ1, r1, er.fu f1, e, fun σ' er' => h1 η1 H1 σ' (Fu.refl _ _) rp1 er'⟩
    · exact h1.elim⟩
theorem s_asg {tg e : Expr} {pos : Pos} {f : FE} {g : FG} (he : PE X e (tF (gx X ct) E f)) (hg : PG X tg (tG (gx X ct) g)) (hs : swapsWithSole [tg] e pos.line X.env = pure false := by rfl) (hw : swappedStores [tg] e X.env = pure none := by rfl)
    (h1 : (assignEach [tg] X.env).map (·.2) = [assign tg X.env] := by rfl) : PS X (.Assign [tg] e pos) (tS (gx X ct) E (fAsg f g)) := PSw (ps_asg he hg hs hw h1) fun D σ H h => asg_key h
theorem s_set (i : Nat) {x : Str} {e : Expr} {pos pos' : Pos} {f : FE} (hN : X.N.Nodup) (he : PE X e (tF (gx X ct) E f)) (hi : X.N[i]? = some x := by rfl) (hx : Loc X.env.scope x := by first | exact Or.inl rfl | exact Or.inr rfl) (hs : swapsWith e (some (.Name x pos')) pos.line X.env = pure false := by rfl)
    (hf : X.fn x = true ∨ X.env.scope.names.lookup x = some .local := by first | exact .inl rfl | exact .inr rfl) : PS X (.Assign [.Name x pos'] e pos) (tS (gx X ct) E (fAsg f (gtName i))) := PSw (ps_set hN hi hx he hs hf) fun D σ H ⟨η, ρ, S, rp, er, h⟩ =>
  ⟨η, ρ, S, rp, er, FinR.mono (FinS.bind er h) fun v H1 ⟨η1, w, S1, f1, rp1, r1, h1⟩ => h1 η1 H1 _ (Fu.refl _ _) rp1 ((er.fu f1).set r1)⟩
/-- x op= e: + of ints -/
def fAug (i : Nat) (g : W → W → Store → O) (a : FE) : FS := fun ρ S => match ρ[i]? with
  | some (some w) => toS ρ (a ρ S) fun u S1 => match g w u S1 with
    | some (z, S2) => .next (ρ.set i (some z)) S2
    | none => .bad
  | _ => .bad
theorem s_aug (i : Nat) {x : Str} {e : Expr} {op : Operator} {pos pos' : Pos} {g : W → W → Store → O} {f : FE} (hN : X.N.Nodup) (ho : OpR X (inplaceOp op) (Sim2 X ct g)) (he : PE X e (tF (gx X ct) E f)) (hi : X.N[i]? = some x := by rfl) (hx : Loc X.env.scope x := by first | exact Or.inl rfl | exact Or.inr rfl)
    (hf : X.fn x = true ∨ X.env.scope.names.lookup x = some .local := by first | exact .inl rfl | exact .inr rfl) : PS X (.AugAssign (.Name x pos') op e pos) (tS (gx X ct) E (fAug i g f)) := PSw (ps_aug (ti := Sim2 X ct g) hN hi hx he (fun pins s σ H a b v u Q I ra rb q => ho pins s σ H a b v u Q I ra rb q) hf) fun D σ H ⟨η, ρ, S, rp, er, h⟩ => by
  unfold fAug at h
  split at h
  · rename_i w e
    obtain ⟨v, e1, r⟩ := er.2 i w e
    refine ⟨v, e1, η, ρ, S, rp, er, FinR.mono (FinS.bind er h) fun v2 H1 ⟨η1, u, S1, f1, rp1, r1, h1⟩ => ⟨η1, S1, w, u, rp1, RepW.fu f1 _ _ r, r1, ?_⟩⟩
    cases e2 : g w u S1 with
    | none => rw [e2] at h1; exact h1.elim
    | some p =>
      obtain ⟨z, S2⟩ := p
      rw [e2] at h1
      exact fun η2 H2 z' f2 rp2 r2 => h1 η2 H2 _ f2 rp2 (((er.fu f1).fu f2).set r2)
  · exact h.elim
theorem sim_iaddI : OpR X (inplaceOp .Add) (Sim2 X ct (gI2 (fun _ _ => true) fun i j => .int (i + j))) := sim_i20 iop_add fun _ _ _ _ => .int _
theorem sim_isubI : OpR X (inplaceOp .Sub) (Sim2 X ct (gI2 (fun _ _ => true) fun i j => .int (i - j))) := sim_i20 iop_sub fun _ _ _ _ => .int _
theorem sim_iaddStr : OpR X (inplaceOp .Add) (Sim2 X ct gAddStr) := OpR.fit iop_add_str fun x y H Q ⟨η, S, wx, wy, rp, rx, ry, h⟩ => by
  unfold gAddStr at h
  split at h
  · cases rx with
    | d rx =>
      cases ry with
      | d ry =>
        cases rx
        cases ry
        split at h
        · exact ⟨_, _, rfl, rfl, lim_ok (by assumption), same_val rp (.d (.str _)) h⟩
        · exact h.elim
  · exact h.elim
/-- o[i] = v, a live list -/
def gSet (o i v : W) (S : Store) : Option Store := match o, i, v with
  | .loc l, .d (.int k), .d x => match S[l]? with
    | some (.lst xs) => match ixN xs.length k with
      | some j => some (S.set l (.lst (xs.set j x)))
      | none => none
    | _ => none
  | _, _, _ => none
def fStore (a o i : FE) : FS := fun ρ S => toS ρ (a ρ S) fun v S1 => toS ρ (o ρ S1) fun ov S2 => toS ρ (i ρ S2) fun iv S3 => match gSet ov iv v S3 with
  | some S4 => .next ρ S4
  | none => .bad
theorem set_key {η : List Addr} {H : Hp} {S S' : Store} {wo wi wv : W} {o i v : V} {P : Hp → Prop} (e : gSet wo wi wv S = some S') (rp : Rp X.K η H S) (ro : RepW X.K η H wo o) (ri : RepW X.K η H wi i) (rv : RepW X.K η H wv v)
    (h : ∀ η' H', Fu η H η' H' → Rp X.K η' H' S' → P H') : rSetL o i v H P := by
  unfold gSet at e
  split at e
  · rename_i l k x
    cases ro with
    | loc ro =>
      cases ri with
      | d ri =>
        cases ri
        cases rv with
        | d rv =>
          split at e
          · rename_i xs q
            split at e
            · rename_i j ej
              cases e
              obtain ⟨vs, h1, h2⟩ := rp.all _ _ _ ro q
              refine ⟨_, vs, k, j, rfl, rfl, h1, by rw [← h2.length]; exact ej, ?_⟩
              have m := List.mem_of_getElem? ro
              have f : Fu η H η (upd H _ (.lst (vs.set j v))) := fu_write m h1 trivial
              exact h η _ f (rp.write ro ⟨_, upd_same, RepDs.fu f _ _ (RepDs.set rv j h2)⟩)
            · cases e
          · cases e
  · cases e
theorem s_store {o i e : Expr} {tpos pos : Pos} {fo fi fe : FE} (he : PE X e (tF (gx X ct) E fe)) (ho : PE X o (tF (gx X ct) E fo)) (hi : PE X i (tF (gx X ct) E fi)) (ha : ∀ v, assign (.Subscript o i tpos) X.env v = (do
      let ov ← holding [v] (eval o X.env)
      let iv ← holding [v, ov] (eval i X.env)
      standAt tpos
      holding [v, ov, iv] (setItem ov iv v)
      release [v, ov, iv] []) := by intro _; rfl) (hs : swapsWithSole [.Subscript o i tpos] e pos.line X.env = pure false := by rfl) (hw : swappedStores [.Subscript o i tpos] e X.env = pure none := by rfl)
    (h1 : (assignEach [.Subscript o i tpos] X.env).map (·.2) = [assign (.Subscript o i tpos) X.env] := by rfl) : PS X (.Assign [.Subscript o i tpos] e pos) (tS (gx X ct) E (fStore fe fo fi)) := PSw (ps_asg he (pg_sub ho hi set_list ha) hs hw h1) fun D σ H ⟨η, ρ, S, rp, er, h⟩ =>
  ⟨η, ρ, S, rp, er, FinR.mono (FinS.bind er h) fun v H1 ⟨η1, w, S1, f1, rp1, r1, h1⟩ =>
    ⟨η1, ρ, S1, rp1, er.fu f1, FinR.mono (FinS.bind (er.fu f1) h1) fun v2 H2 ⟨η2, w2, S2, f2, rp2, r2, h2⟩ =>
      ⟨η2, ρ, S2, rp2, (er.fu f1).fu f2, FinR.mono (FinS.bind ((er.fu f1).fu f2) h2) fun v3 H3 ⟨η3, w3, S3, f3, rp3, r3, h3⟩ => by
        split at h3
        · rename_i S4 e4
          exact set_key e4 rp3 (RepW.fu f3 _ _ r2) r3 (RepW.fu f3 _ _ (RepW.fu f2 _ _ r1)) fun η4 H4 f4 rp4 => h3 η4 H4 σ f4 rp4 ((((er.fu f1).fu f2).fu f3).fu f4)
        · exact h3.elim⟩⟩⟩

/-! while -/
def whileL (c : FT) (b : FS) : Nat → Rho → Store → RF
  | 0, _, _ => .bad
  | n + 1, ρ, S => toS ρ (c ρ S) fun k S1 => if k = true then (match b ρ S1 with
    | .next ρ2 S2 => whileL c b n ρ2 S2
    | .cnt ρ2 S2 => whileL c b n ρ2 S2
    | .brk ρ2 S2 => .next ρ2 S2
    | r => r) else .next ρ S1
theorem s_while (n : Nat) {c : Expr} {body : List Stmt} {pos : Pos} {t : FT} {f : FS} (hp : PassesOwn (model X.prog X.w) X.A X.env X.xe) (hc : PT X c (tT (gx X ct) E t)) (hb : PSs X body (tS (gx X ct) E f)) : PS X (.While c body [] pos) (tS (gx X ct) E (whileL t f n)) := PSw (ps_while hp hc hb) fun D σ H ⟨η, ρ, S, rp, er, h⟩ => by
  refine ⟨fun m σ H => ∃ η ρ S, Rp X.K η H S ∧ ERep X.K η H ρ σ ∧ FinS (gx X ct) E η H (whileL t f m ρ S) D, ⟨n, η, ρ, S, rp, er, h⟩, ?_⟩
  rintro m σ H ⟨η, ρ, S, rp, er, h⟩
  cases m with
  | zero => exact h.elim
  | succ m =>
    refine ⟨η, ρ, S, rp, er, FinR.mono (FinS.bind (rel := relB) er h) fun v H1 ⟨η1, k, S1, f1, rp1, r1, h1⟩ => ?_⟩
    obtain rfl : v = k := r1
    by_cases hv : v = true
    · rw [if_pos hv] at h1 ⊢
      refine ⟨fun σ' H' => ∃ η ρ S, Rp X.K η H' S ∧ ERep X.K η H' ρ σ' ∧ FinS (gx X ct) E η H' (whileL t f m ρ S) D, fun σ' H' q => ⟨m, Nat.lt_succ_self m, q⟩, η1, ρ, S1, rp1, er.fu f1, ?_⟩
      cases e : f ρ S1 with
      | next ρ2 S2 => rw [e] at h1; exact fun η2 H2 σ2 f2 rp2 er2 => ⟨η2, ρ2, S2, rp2, er2, FinS.fu f2 h1⟩
      | cnt ρ2 S2 => rw [e] at h1; exact fun η2 H2 σ2 f2 rp2 er2 => ⟨η2, ρ2, S2, rp2, er2, FinS.fu f2 h1⟩
      | brk ρ2 S2 => rw [e] at h1; exact h1
      | ret w S2 => rw [e] at h1; exact h1
      | exc c fs ρ2 S2 => rw [e] at h1; exact h1
      | bad => rw [e] at h1; exact h1
    · rw [if_neg hv] at h1 ⊢
      exact h1 η1 H1 σ (Fu.refl _ _) rp1 (er.fu f1)

end
end VI
set_option Elab.async false
set_option linter.all false
set_option maxRecDepth 100000
namespace VI
open PySem PySem.Spec PyProof.Rows L2

/-! what is walked -/
/-- the members, and what the store must say at each turn -/
structure Wk where
  xs : List W
  ok : Store → Prop
structure WalkOk (K : PySem.W.Frag) (x : Wk) (η : List Addr) (H : Hp) (J : It) : Prop where
  stop : ∀ η' H' S', Fu η H η' H' → Rp K η' H' S' → x.ok S' → J.stop x.xs.length H'
  go : ∀ η' H' S' i w, Fu η H η' H' → Rp K η' H' S' → x.ok S' → x.xs[i]? = some w → J.go i H' ∧ ∀ y H'', J.yld i H' y H'' → Fu η' H' η' H'' ∧ Rp K η' H'' S' ∧ RepW K η' H'' w y
abbrev relJ (G : Gc) : Wk → List Addr → Hp → It → Prop := fun x η H J => WalkOk G.K x η H J
abbrev FK := Rho → Store → R Wk
def tI (G : Gc) (E : EX) (f : FK) : TI := fun σ H Q => ∃ η ρ S, Rp G.K η H S ∧ ERep G.K η H ρ σ ∧ FinR G (relJ G) (E σ) η H (f ρ S) Q
theorem PIw {X : Cx} {tg e : Expr} {t t' : TI} (h : PI X tg e t) (i : ∀ σ H R, t' σ H R → t σ H R) : PI X tg e t' := ⟨fun pins s σ H R I q => h.run pins s σ H R I (i σ H R q)⟩
def seqR {α : Type} (o : Option α) (S : Store) : R α := match o with
  | some ws => .ok ws S
  | none => .bad
theorem seqR_fin {α β : Type} {G : Gc} {Z : XK} {η : List Addr} {H : Hp} {S : Store} {o : Option α} {rel : α → List Addr → Hp → β → Prop} {Q : β → Hp → Prop} (h : FinR G rel Z η H (seqR o S) Q) : ∃ xs, o = some xs ∧ FinR G rel Z η H (.ok xs S) Q := by
  cases o with
  | none => exact h.elim
  | some xs => exact ⟨xs, rfl, h⟩
/-- a list: one that stays, or a live one, which must stay through the turns -/
def wkL (w : W) (S : Store) : Option Wk := match w with
  | .d (.list xs) => some ⟨xs.map W.d, fun _ => True⟩
  | .fro xs => some ⟨xs.map W.d, fun _ => True⟩
  | .lw xs => some ⟨xs, fun _ => True⟩
  | .loc l => match S[l]? with
    | some (.lst xs) => some ⟨xs.map W.d, fun S' => S'[l]? = some (.lst xs)⟩
    | _ => none
  | _ => none
def wkT (w : W) : Option Wk := (asTW w).map fun xs => ⟨xs, fun _ => True⟩
def fItL (a : FE) : FK := fun ρ S => (a ρ S).bind fun w S1 => seqR (wkL w S1) S1
def fItT (a : FE) : FK := fun ρ S => (a ρ S).bind fun w S1 => seqR (wkT w) S1
/-- a list as it stands, at each turn -/
def StayW (K : PySem.W.Frag) (x : Wk) (η : List Addr) (H : Hp) (T : Hp → List V → Prop) : Prop :=
  ∀ η' H' S', Fu η H η' H' → Rp K η' H' S' → x.ok S' → ∃ vs, T H' vs ∧ RepWs K η' H' x.xs vs
theorem wkL_ok {K : PySem.W.Frag} {η : List Addr} {H : Hp} {S : Store} {w : W} {v : V} {x : Wk} (e : wkL w S = some x) (rp : Rp K η H S) (r : RepW K η H w v) : ∃ a vs, v = .ref a ∧ SqL K H a vs ∧ StayW K x η H (fun H' vs => SqL K H' a vs) := by
  unfold wkL at e
  split at e
  · cases e
    cases r with
    | d r =>
      cases r with
      | list h1 h2 h3 => exact ⟨_, _, rfl, SqL.of h1, fun η' H' S' f rp' _ => ⟨_, SqL.of (f.ls _ _ h2 h1), RepWs.ofD (RepDs.fu f _ _ h3)⟩⟩
  · cases e
    cases r with
    | fro h1 h2 => exact ⟨_, _, rfl, h1.seq, fun η' H' S' f rp' _ => ⟨_, (h1.fu f).seq, RepWs.ofD (RepDs.fu f _ _ h2)⟩⟩
  · cases e
    cases r with
    | lw h1 h2 h3 => exact ⟨_, _, rfl, SqL.of h1, fun η' H' S' f rp' _ => ⟨_, SqL.of (f.ls _ _ h2 h1), RepWs.fu f _ _ h3⟩⟩
  · split at e
    · rename_i l xs q
      cases e
      cases r with
      | loc r =>
        obtain ⟨vs, h1, h2⟩ := rp.all _ _ _ r q
        refine ⟨_, vs, rfl, SqL.of h1, fun η' H' S' f rp' ok => ?_⟩
        obtain ⟨vs', h1', h2'⟩ := rp'.all _ _ _ (f.get r) ok
        exact ⟨vs', SqL.of h1', RepWs.ofD h2'⟩
    · cases e
  · cases e
theorem wkT_ok {K : PySem.W.Frag} {η : List Addr} {H : Hp} {w : W} {v : V} {x : Wk} (e : wkT w = some x) (r : RepW K η H w v) : ∃ a vs, v = .ref a ∧ SqT K H a vs ∧ StayW K x η H (fun H' vs => SqT K H' a vs) := by
  unfold wkT at e
  cases q : asTW w with
  | none => rw [q] at e; cases e
  | some xs =>
    rw [q] at e
    cases e
    obtain ⟨a, vs, rfl, h1, h2⟩ := asTW_ok q r
    exact ⟨a, vs, rfl, h1, fun η' H' S' f rp' _ => ⟨vs, SqT.fu f h1, RepWs.fu f _ _ h2⟩⟩
section
variable {X : Cx} {ct : Nat → Option Addr} {E : EX} {tg : Expr}
theorem walk_l {K : PySem.W.Frag} {η : List Addr} {H : Hp} {a : Addr} {x : Wk} (st : StayW K x η H (fun H' vs => SqL K H' a vs)) : WalkOk K x η H (Itl K a) where
  stop := fun η' H' S' f rp ok => by
    obtain ⟨vs, h1, h2⟩ := st η' H' S' f rp ok
    exact ⟨vs, h1, by rw [h2.length]; exact Nat.le_refl _⟩
  go := fun η' H' S' i w f rp ok e => by
    obtain ⟨vs, h1, h2⟩ := st η' H' S' f rp ok
    obtain ⟨v, e1, r1⟩ := h2.get e
    refine ⟨⟨vs, v, h1, e1⟩, fun y H'' q => ?_⟩
    obtain ⟨rfl, q⟩ := q
    have e2 := q vs h1
    rw [e1] at e2
    cases e2
    exact ⟨Fu.refl _ _, rp, r1⟩
theorem walk_t {K : PySem.W.Frag} {η : List Addr} {H : Hp} {a : Addr} {x : Wk} (st : StayW K x η H (fun H' vs => SqT K H' a vs)) : WalkOk K x η H (Itt K a) where
  stop := fun η' H' S' f rp ok => by
    obtain ⟨vs, h1, h2⟩ := st η' H' S' f rp ok
    exact ⟨vs, h1, by rw [h2.length]; exact Nat.le_refl _⟩
  go := fun η' H' S' i w f rp ok e => by
    obtain ⟨vs, h1, h2⟩ := st η' H' S' f rp ok
    obtain ⟨v, e1, r1⟩ := h2.get e
    refine ⟨⟨vs, v, h1, e1⟩, fun y H'' q => ?_⟩
    obtain ⟨rfl, q⟩ := q
    have e2 := q vs h1
    rw [e1] at e2
    cases e2
    exact ⟨Fu.refl _ _, rp, r1⟩
theorem w_list {e : Expr} {f : FE} (he : PE X e (tF (gx X ct) E f)) : PI X tg e (tI (gx X ct) E (fItL f)) := PIw (pi_list he) fun σ H R ⟨η, ρ, S, rp, er, h⟩ =>
  ⟨η, ρ, S, rp, er, FinR.mono (FinR.bind (rel := relW (gx X ct)) h) fun v H1 ⟨η1, w, S1, f1, rp1, r1, h1⟩ => by
    obtain ⟨x, e1, h2⟩ := seqR_fin h1
    obtain ⟨a, vs, rfl, hq, st⟩ := wkL_ok e1 rp1 r1
    exact ⟨a, rfl, ⟨vs, hq⟩, h2 η1 H1 _ (Fu.refl _ _) rp1 (walk_l st)⟩⟩
theorem w_tup {e : Expr} {f : FE} (he : PE X e (tF (gx X ct) E f)) : PI X tg e (tI (gx X ct) E (fItT f)) := PIw (pi_tup he) fun σ H R ⟨η, ρ, S, rp, er, h⟩ =>
  ⟨η, ρ, S, rp, er, FinR.mono (FinR.bind (rel := relW (gx X ct)) h) fun v H1 ⟨η1, w, S1, f1, rp1, r1, h1⟩ => by
    obtain ⟨x, e1, h2⟩ := seqR_fin h1
    obtain ⟨a, vs, rfl, hq, st⟩ := wkT_ok e1 r1
    exact ⟨a, rfl, ⟨vs, hq⟩, h2 η1 H1 _ (Fu.refl _ _) rp1 (walk_t st)⟩⟩
/-- lo, lo + 1 .. -/
def rangeW (lo : Int) (n : Nat) : List W := (List.range n).map fun (i : Nat) => W.d (.int (lo + (i : Int)))
theorem rangeW_get {lo : Int} {n i : Nat} {w : W} (e : (rangeW lo n)[i]? = some w) : i < n ∧ w = .d (.int (lo + (i : Int))) := by
  unfold rangeW at e
  rw [List.getElem?_map] at e
  cases q : (List.range n)[i]? with
  | none => rw [q] at e; cases e
  | some j =>
    rw [q] at e
    cases e
    obtain ⟨h1, h2⟩ := List.getElem?_eq_some_iff.mp q
    rw [List.getElem_range] at h2
    rw [List.length_range] at h1
    subst h2
    exact ⟨h1, rfl⟩
theorem walk_r {K : PySem.W.Frag} {η : List Addr} {H : Hp} {lo : Int} {n : Nat} : WalkOk K ⟨rangeW lo n, fun _ => True⟩ η H (Itr lo n) where
  stop := fun η' H' S' f rp ok => by
    show n ≤ (rangeW lo n).length
    unfold rangeW
    rw [List.length_map, List.length_range]
    exact Nat.le_refl _
  go := fun η' H' S' i w f rp ok e => by
    obtain ⟨hi, rfl⟩ := rangeW_get e
    refine ⟨hi, fun x H'' y => ?_⟩
    obtain ⟨rfl, rfl⟩ := y
    exact ⟨Fu.refl _ _, rp, .d (.int _)⟩
/-- lo, lo - 1 .. -/
def downW (lo : Int) (n : Nat) : List W := (List.range n).map fun (i : Nat) => W.d (.int (lo + (i : Int) * -1))
theorem downW_get {lo : Int} {n i : Nat} {w : W} (e : (downW lo n)[i]? = some w) : i < n ∧ w = .d (.int (lo + (i : Int) * -1)) := by
  unfold downW at e
  rw [List.getElem?_map] at e
  cases q : (List.range n)[i]? with
  | none => rw [q] at e; cases e
  | some j =>
    rw [q] at e
    cases e
    obtain ⟨h1, h2⟩ := List.getElem?_eq_some_iff.mp q
    rw [List.getElem_range] at h2
    rw [List.length_range] at h1
    subst h2
    exact ⟨h1, rfl⟩
theorem walk_c {K : PySem.W.Frag} {η : List Addr} {H : Hp} {lo : Int} {n : Nat} : WalkOk K ⟨downW lo n, fun _ => True⟩ η H (Itc lo (-1) n) where
  stop := fun η' H' S' f rp ok => by
    show n ≤ (downW lo n).length
    unfold downW
    rw [List.length_map, List.length_range]
    exact Nat.le_refl _
  go := fun η' H' S' i w f rp ok e => by
    obtain ⟨hi, rfl⟩ := downW_get e
    refine ⟨hi, fun x H'' y => ?_⟩
    obtain ⟨rfl, rfl⟩ := y
    exact ⟨Fu.refl _ _, rp, .d (.int _)⟩
/-- fits 62 bits -/
def fit62 (i : Int) : Bool := decide (-(2 ^ 62) ≤ i) && decide (i < 2 ^ 62)
theorem fit62_ok {i : Int} (h : fit62 i = true) : -(2 ^ 62) ≤ i ∧ i < 2 ^ 62 := by
  unfold fit62 at h
  rw [Bool.and_eq_true, decide_eq_true_eq, decide_eq_true_eq] at h
  exact h
def rng1 (ws : List W) (S : Store) : R Wk := match ws with
  | [.d (.int j)] => if fit62 j = true then .ok ⟨rangeW 0 j.toNat, fun _ => True⟩ S else .bad
  | _ => .bad
def rng2 (ws : List W) (S : Store) : R Wk := match ws with
  | [.d (.int i), .d (.int j)] => if fit62 i = true ∧ fit62 j = true then .ok ⟨rangeW i (j - i).toNat, fun _ => True⟩ S else .bad
  | _ => .bad
def rng3 (ws : List W) (S : Store) : R Wk := match ws with
  | [.d (.int i), .d (.int j), .d (.int c)] => if c = -1 ∧ fit62 i = true ∧ fit62 j = true then .ok ⟨downW i (i - j).toNat, fun _ => True⟩ S else .bad
  | _ => .bad
def fRng (g : List W → Store → R Wk) (a : FA) : FK := fun ρ S => (a ρ S).bind g
theorem repWs3 {K : PySem.W.Frag} {η : List Addr} {H : Hp} {w u t : W} {vs : List V} (r : RepWs K η H [w, u, t] vs) : ∃ v v' v'', vs = [v, v', v''] ∧ RepW K η H w v ∧ RepW K η H u v' ∧ RepW K η H t v'' := by
  cases r with
  | cons h1 h2 =>
    obtain ⟨v', v'', rfl, h3, h4⟩ := repWs2 h2
    exact ⟨_, _, _, rfl, h1, h3, h4⟩
theorem intW {K : PySem.W.Frag} {η : List Addr} {H : Hp} {i : Int} {v : V} (r : RepW K η H (.d (.int i)) v) : v = .int i := by
  cases r with | d r => cases r; rfl
theorem w_range1 {a : Expr} {fa : FA} {p pos : Pos} (hg : Gl X "range") (hm : X.mg "range" = none) (ha : PA X [a] (tA (gx X ct) E fa)) (hs : starEach [a] X.env = [(false, eval a X.env)] := by rfl) : PI X tg (.Call (.Name "range" p) [a] [] pos) (tI (gx X ct) E (fRng rng1 fa)) :=
  PIw (pi_range1 hg hm ha hs) fun σ H R ⟨η, ρ, S, rp, er, h⟩ => ⟨η, ρ, S, rp, er, by
    refine FinR.mono (FinR.bind (rel := relL (gx X ct)) h) fun v H1 ⟨η1, w, S1, f1, rp1, r1, h1⟩ => ?_
    unfold rng1 at h1
    split at h1
    · rename_i j
      split at h1
      · rename_i hj
        obtain ⟨v', rfl, r2⟩ := repWs1 r1
        obtain rfl := intW r2
        exact ⟨j, rfl, (fit62_ok hj).1, (fit62_ok hj).2, h1 η1 H1 _ (Fu.refl _ _) rp1 walk_r⟩
      · exact h1.elim
    · exact h1.elim⟩
theorem w_range2 {a b : Expr} {fa : FA} {p pos : Pos} (hg : Gl X "range") (hm : X.mg "range" = none) (ha : PA X [a, b] (tA (gx X ct) E fa)) (hs : starEach [a, b] X.env = [(false, eval a X.env), (false, eval b X.env)] := by rfl) (hs2 : starEach [b] X.env = [(false, eval b X.env)] := by rfl) : PI X tg (.Call (.Name "range" p) [a, b] [] pos) (tI (gx X ct) E (fRng rng2 fa)) :=
  PIw (pi_range2 hg hm ha hs hs2) fun σ H R ⟨η, ρ, S, rp, er, h⟩ => ⟨η, ρ, S, rp, er, by
    refine FinR.mono (FinR.bind (rel := relL (gx X ct)) h) fun v H1 ⟨η1, w, S1, f1, rp1, r1, h1⟩ => ?_
    unfold rng2 at h1
    split at h1
    · rename_i i j
      split at h1
      · rename_i hj
        obtain ⟨v1, v2, rfl, r2, r3⟩ := repWs2 r1
        obtain rfl := intW r2
        obtain rfl := intW r3
        exact ⟨i, j, rfl, ⟨(fit62_ok hj.1).1, (fit62_ok hj.1).2, (fit62_ok hj.2).1, (fit62_ok hj.2).2⟩, h1 η1 H1 _ (Fu.refl _ _) rp1 walk_r⟩
      · exact h1.elim
    · exact h1.elim⟩
theorem w_range3 {a b c : Expr} {fa : FA} {p pos : Pos} (hg : Gl X "range") (hm : X.mg "range" = none) (ha : PA X [a, b, c] (tA (gx X ct) E fa))
    (hs : starEach [a, b, c] X.env = (false, eval a X.env) :: starEach [b, c] X.env := by rfl) (hpl : (backTo pos (starEach [b, c] X.env)).any (·.1) = false := by rfl) : PI X tg (.Call (.Name "range" p) [a, b, c] [] pos) (tI (gx X ct) E (fRng rng3 fa)) :=
  PIw (pi_range3 hg hm ha hs hpl) fun σ H R ⟨η, ρ, S, rp, er, h⟩ => ⟨η, ρ, S, rp, er, by
    refine FinR.mono (FinR.bind (rel := relL (gx X ct)) h) fun v H1 ⟨η1, w, S1, f1, rp1, r1, h1⟩ => ?_
    unfold rng3 at h1
    split at h1
    · rename_i i j c
      split at h1
      · rename_i hj
        obtain ⟨hc, hi, hj⟩ := hj
        subst hc
        obtain ⟨v1, v2, v3, rfl, r2, r3, r4⟩ := repWs3 r1
        obtain rfl := intW r2
        obtain rfl := intW r3
        obtain rfl := intW r4
        exact ⟨i, j, -1, _, rfl, RgC.neg (fit62_ok hi).1 (fit62_ok hi).2 (fit62_ok hj).1 (fit62_ok hj).2, h1 η1 H1 _ (Fu.refl _ _) rp1 walk_c⟩
      · exact h1.elim
    · exact h1.elim⟩
end
end VI
set_option Elab.async false
set_option linter.all false
set_option maxRecDepth 100000
namespace VI
open PySem PySem.Spec PyProof.Rows L2

/-! two sequences side by side, each a list (true) or a tuple (false) -/
def SqB (K : PySem.W.Frag) (k : Bool) (H : Hp) (a : Addr) (xs : List V) : Prop := match k with
  | true => SqL K H a xs
  | false => SqT K H a xs
def ItB (k : Bool) (h : Heap) (it a : Addr) (i : Nat) : Prop := match k with
  | true => h.IsListIter it a i
  | false => h.IsTupleIter it a i
def CoB (k : Bool) (h : Heap) (a : Addr) (its : Array Value) : Prop := match k with
  | true => h.IsList a its
  | false => h.IsTuple a its
def obB (k : Bool) (a : Addr) : Obj := match k with
  | true => { cls := .type "list_iterator", data := .fields #[.ref a, .int 0 0] }
  | false => { cls := .type "tuple_iterator", data := .fields #[.ref a, .int 0 0] }
theorem begB (k : Bool) (a : Addr) (its : Array Value) : Begins (.ref a) (obB k a) fun h => CoB k h a its := by
  cases k
  · exact begins_tuple a its
  · exact begins_list a its
theorem drwB {P : Program} {w : World} {A : Around} (hh : A.handled = none) (k : Bool) (it a : Addr) (hne : a ≠ it) (its : Array Value) :
    Draws P w A it [it, a] its.size (fun i v => its[i]? = some v) (fun i h => ItB k h it a i ∧ CoB k h a its) := by
  cases k
  · exact .tuple hh it a hne its
  · exact .list hh it a hne its
theorem ItB.new {k : Bool} {h : Heap} {it a : Addr} (e : h.get? it = some (obB k a)) : ItB k h it a 0 := by
  cases k
  · exact ⟨_, e, rfl, rfl⟩
  · exact ⟨_, e, rfl, rfl⟩
theorem ItB.at {k : Bool} {h h' : Heap} {it a : Addr} {i : Nat} (t : ItB k h it a i) (e : ∀ o, h.get? it = some o → h'.get? it = some o) : ItB k h' it a i := by
  cases k
  · obtain ⟨o, q, r⟩ := t
    exact ⟨o, e o q, r⟩
  · obtain ⟨o, q, r⟩ := t
    exact ⟨o, e o q, r⟩
theorem ItB.obj {k : Bool} {h : Heap} {it a : Addr} {i : Nat} (t : ItB k h it a i) : ∃ o, h.get? it = some o ∧ ∀ v, o.data ≠ .cell v := by
  cases k
  · obtain ⟨o, q, _, r⟩ := t
    exact ⟨o, q, fun v z => by rw [r] at z; cases z⟩
  · obtain ⟨o, q, _, r⟩ := t
    exact ⟨o, q, fun v z => by rw [r] at z; cases z⟩
theorem CoB.lt {k : Bool} {h : Heap} {a : Addr} {its : Array Value} (t : CoB k h a its) : a < h.objs.size := by
  cases k
  · obtain ⟨o, q, _⟩ := t
    exact Heap.lt_size q
  · obtain ⟨o, q, _⟩ := t
    exact Heap.lt_size q
theorem SqB.of {X : Cx} {k : Bool} {pins : List (Addr × Obj)} {σ : L2.St} {H : Hp} {s : Shared} {a : Addr} {xs : List V} (I : Inv X pins σ H s) (q : SqB X.K k H a xs) : ∃ its : List Value, Vals xs its ∧ CoB k s.heap a its.toArray := by
  cases k
  · obtain ⟨its, r, p, _⟩ := I.tuple q
    obtain ⟨o, e, c, n, d⟩ := p
    exact ⟨its, r, o, e, c, n, d⟩
  · obtain ⟨its, r, p, _⟩ := I.list q
    exact ⟨its, r, p.isList⟩
theorem SqB.inj {X : Cx} {k : Bool} {pins : List (Addr × Obj)} {σ : L2.St} {H : Hp} {s : Shared} {a : Addr} {xs ys : List V} (I : Inv X pins σ H s) (q : SqB X.K k H a xs) (q' : SqB X.K k H a ys) : xs = ys := by
  cases k
  · exact I.tuple_inj q q'
  · exact I.list_inj q q'
def ItzB (K : PySem.W.Frag) (k1 k2 : Bool) (a b : Addr) : It :=
  ⟨fun i H => ∃ (xs ys : List V) (x y : V), SqB K k1 H a xs ∧ SqB K k2 H b ys ∧ xs[i]? = some x ∧ ys[i]? = some y,
    fun i H v H' => ∃ T x y, v = .ref T ∧ H T = none ∧ H' = upd H T (.tup [x, y]) ∧ (∀ xs, SqB K k1 H a xs → xs[i]? = some x) ∧ ∀ ys, SqB K k2 H b ys → ys[i]? = some y,
    fun i H => ∃ xs ys : List V, SqB K k1 H a xs ∧ SqB K k2 H b ys ∧ i = min xs.length ys.length⟩
/-- where the iterator of a pair stands -/
def AtZ (k1 k2 : Bool) (a b z TI TO i1 i2 : Addr) (i : Nat) (h : Heap) : Prop :=
  IsZip h z TI TO .none ∧ IsTupOf2 h TI (.ref i1) (.ref i2) ∧ (∃ x y, IsTupOf2 h TO x y) ∧ ItB k1 h i1 a i ∧ ItB k2 h i2 b i
theorem mem5 {c z TI TO i1 i2 : Addr} (h : c ∈ [z, TI, TO, i1, i2]) : c = z ∨ c = TI ∨ c = TO ∨ c = i1 ∨ c = i2 := by simpa using h
theorem goZ {X : Cx} {pins : List (Addr × Obj)} {σ : L2.St} {H : Hp} {s : Shared} (I : Inv X pins σ H s) (hc : X.calm = true) {elts : List Expr} {kk : Nat} {tpos : Pos} {k1 k2 : Bool} {a b z TI TO i1 i2 : Addr} (D : ZipSep2 z TI TO i1 i2 [i1, a] [i2, b]) (h1 : a ≠ i1) (h2 : b ≠ i2) (us ws : List Value) :
    GoesN X.prog X.w X.A (.Tuple elts kk tpos) z (z :: TI :: TO :: ([i1, a] ++ [i2, b])) [z, TO, i1, i2] (min us.toArray.size ws.toArray.size) (fun i h₀ v h => ∃ T x y, v = .ref T ∧ h₀.objs.size ≤ T ∧ us.toArray[i]? = some x ∧ ws.toArray[i]? = some y ∧ h.IsTuple T #[x, y])
      (fun i h => IsZip h z TI TO .none ∧ IsTupOf2 h TI (.ref i1) (.ref i2) ∧ (∃ x y, IsTupOf2 h TO x y) ∧ (ItB k1 h i1 a i ∧ CoB k1 h a us.toArray) ∧ ItB k2 h i2 b i ∧ CoB k2 h b ws.toArray) :=
  GoesN.zip2 D (drwB (A := X.A.in1) (I.ok.hd hc) k1 i1 a h1 us.toArray) (drwB (A := X.A.in1) (I.ok.hd hc) k2 i2 b h2 ws.toArray)
theorem turn_zipB {P : Program} {w : World} {K : PySem.W.Frag} {elts : List Expr} {kk : Nat} {tpos : Pos} {k1 k2 : Bool} {a b z TI TO i1 i2 : Addr} (D : ZipSep2 z TI TO i1 i2 [i1, a] [i2, b]) (h1 : a ≠ i1) (h2 : b ≠ i2) :
    Turn P w K (.Tuple elts kk tpos) (ItzB K k1 k2 a b) [z, TI, TO, i1, i2] z (AtZ k1 k2 a b z TI TO i1 i2) where
  mem := by simp
  obj := fun i h st c hc => by
    obtain ⟨hz, hI, ⟨x, y, hO⟩, q1, q2⟩ := st
    rcases mem5 hc with q | q | q | q | q
    · rw [q]; exact ⟨_, hz, fun v q => nomatch q⟩
    · rw [q]; exact ⟨_, hI, fun v q => nomatch q⟩
    · rw [q]; exact ⟨_, hO, fun v q => nomatch q⟩
    · rw [q]; exact q1.obj
    · rw [q]; exact q2.obj
  keep := fun i h h' st k => by
    obtain ⟨hz, hI, ⟨x, y, hO⟩, q1, q2⟩ := st
    exact ⟨k z (by simp) _ hz, k TI (by simp) _ hI, ⟨x, y, k TO (by simp) _ hO⟩, q1.at fun o q => k i1 (by simp) o q, q2.at fun o q => k i2 (by simp) o q⟩
  item := by
    intro X hP hw hK hc i pins s σ H E I hf st hg
    subst hP hw hK
    obtain ⟨xs, ys, x, y, sx, sy, ex, ey⟩ := hg
    obtain ⟨us, rx, cx⟩ := SqB.of I sx
    obtain ⟨ws, ry, cy⟩ := SqB.of I sy
    obtain ⟨u, hu, ru⟩ := rx.get ex
    obtain ⟨t, ht, rt⟩ := ry.get ey
    obtain ⟨lu, eu⟩ := List.getElem?_eq_some_iff.mp hu
    obtain ⟨lt, et⟩ := List.getElem?_eq_some_iff.mp ht
    obtain ⟨hz, hI, hO, q1, q2⟩ := st
    refine (goZ I hc D h1 h2 us ws).goes i s (fun v s2 => ∃ x H', Inv X pins σ H' s2 ∧ RelV x v ∧ (ItzB X.K k1 k2 a b).yld i H x H' ∧ AtZ k1 k2 a b z TI TO i1 i2 (i + 1) s2.heap ∧ ∀ b ∈ [z, TI, TO, i1, i2], H' b = none) E (by rw [List.size_toArray, List.size_toArray]; exact Nat.lt_min.mpr ⟨lu, lt⟩) ⟨hz, hI, hO, ⟨q1, cx⟩, ⟨q2, cy⟩⟩ fun v h' tk yy st' hk htk => ?_
    obtain ⟨T, p, q, rfl, hT, hp, hq, isT⟩ := yy
    obtain ⟨hz', hI', hO', ⟨q1', _⟩, ⟨q2', _⟩⟩ := st'
    have e1 : p = u := by
      have z : us.toArray[i]? = some p := hp
      rw [List.getElem?_toArray, hu] at z
      exact (Option.some.inj z).symm
    have e2 : q = t := by
      have z : ws.toArray[i]? = some q := hq
      rw [List.getElem?_toArray, ht] at z
      exact (Option.some.inj z).symm
    subst e1 e2
    obtain ⟨oT, gT, cT, nT, dT⟩ := isT
    have new : ObjOk X.prog X.w (upd H T (.tup [x, y])) h' T (.tup [x, y]) := ⟨by show 2 ≤ sizeLine; decide, [p, q], .cons ru (.cons rt .nil), ⟨oT, gT, cT, nT, dT⟩⟩
    have I1 : Inv X pins σ (upd H T (.tup [x, y])) { s with heap := h', toks := tk } :=
      I.turnedNew (ch := [z, TI, TO, i1, i2]) (fun c o hb q' => hk c o (fun m => hb (by simp at m ⊢; rcases m with m | m | m | m <;> simp [m])) q') hf hT new
    refine ⟨.ref T, _, I1, rfl, ⟨T, x, y, rfl, I.hok.fresh hT, rfl, fun l hl => by rw [SqB.inj I hl sx]; exact ex, fun l hl => by rw [SqB.inj I hl sy]; exact ey⟩, ⟨hz', hI', hO', q1', q2'⟩, fun c hcm => ?_⟩
    have hlt : c < s.heap.objs.size := by
      obtain ⟨x0, y0, hO⟩ := hO
      rcases mem5 hcm with m | m | m | m | m
      · rw [m]; exact Heap.lt_size hz
      · rw [m]; exact Heap.lt_size hI
      · rw [m]; exact Heap.lt_size hO
      · rw [m]; obtain ⟨_, g, _⟩ := q1.obj; exact Heap.lt_size g
      · rw [m]; obtain ⟨_, g, _⟩ := q2.obj; exact Heap.lt_size g
    rw [upd_ne (Nat.ne_of_lt (Nat.lt_of_lt_of_le hlt hT))]
    exact (hf c hcm).1
  done := by
    intro X hP hw hK hc i pins s σ H E I hf st hg
    subst hP hw hK
    obtain ⟨xs, ys, sx, sy, ei⟩ := hg
    obtain ⟨us, rx, cx⟩ := SqB.of I sx
    obtain ⟨ws, ry, cy⟩ := SqB.of I sy
    obtain ⟨hz, hI, hO, q1, q2⟩ := st
    have en : i = min us.toArray.size ws.toArray.size := by rw [List.size_toArray, List.size_toArray, ← rx.length, ← ry.length]; exact ei
    refine (goZ (elts := elts) (kk := kk) (tpos := tpos) I hc D h1 h2 us ws).stops s (fun s1 => Inv X pins σ H s1) E ⟨hz, hI, hO, ⟨?_, cx⟩, ⟨?_, cy⟩⟩ fun h' tk hk htk => ?_
    · rw [← en]; exact q1
    · rw [← en]; exact q2
    · exact I.turnedL (ch := [z, TI, TO, i1, i2]) (fun c o hb q' => hk c o (fun m => hb (by simp at m ⊢; rcases m with m | m | m | m <;> simp [m])) q') hf
  self := fun A i s Q E st h => wpAny_pyIter_zip st.1 h

def iZipB (K : PySem.W.Frag) (ta : TA) : TI := fun σ H R => ta σ H fun vs H1 => ∃ (k1 k2 : Bool) (a b : Addr) (xs ys : List V), vs = [.ref a, .ref b] ∧ SqB K k1 H1 a xs ∧ SqB K k2 H1 b ys ∧ R (ItzB K k1 k2 a b) H1
theorem pi_zipB {X : Cx} {e e2 : Expr} {ta : TA} {p pos tpos : Pos} {elts : List Expr} {kk : Nat} (hg : Gl X "zip") (hm : X.mg "zip" = none) (ha : PA X [e, e2] ta)
    (hs : starEach [e, e2] X.env = (false, eval e X.env) :: starEach [e2] X.env := by rfl) (hpl : (backTo pos (starEach [e2] X.env)).any (·.1) = false := by rfl) :
    PI X (.Tuple elts kk tpos) (.Call (.Name "zip" p) [e, e2] [] pos) (iZipB X.K ta) := ⟨fun pins s σ H R I h => by
  refine Call_ (ld_blt I hg hm PyProof.Rows.boot_zip (PyProof.Rows.callWith_type1 (thn (ha.run pos pins s σ H _ I h) fun us s1 ⟨vs, H1, I1, r1, q1⟩ => ?_) hs hpl))
  obtain ⟨k1, k2, a, b, xs, ys, rfl, sx, sy, q⟩ := q1
  cases r1 with
  | cons r rr =>
    cases rr with
    | cons r' rr =>
      cases rr
      cases r
      cases r'
      obtain ⟨us, rx, cx⟩ := SqB.of I1 sx
      obtain ⟨ws, ry, cy⟩ := SqB.of I1 sy
      refine zip_begins2 (begB k1 a us.toArray) (begB k2 b ws.toArray) cx cy fun h' hz hI hO g1 g2 hsz hk => wpAny_pyIter_zip hz ?_
      have I2 : Inv X pins σ H1 { s1 with heap := h' } := I1.kept (t' := s1.toks) hk
      refine ⟨s1.heap.objs.size + 4, [s1.heap.objs.size + 4, s1.heap.objs.size + 2, s1.heap.objs.size + 3, s1.heap.objs.size, s1.heap.objs.size + 1], _, _, H1, rfl, I2,
        turn_zipB (zip_sep2 (fun c m => by rw [List.mem_singleton.mp m]; exact cx.lt) fun c m => by rw [List.mem_singleton.mp m]; exact cy.lt) (Nat.ne_of_lt cx.lt) (Nat.ne_of_lt (Nat.lt_succ_of_lt cy.lt)), ⟨hz, hI, ⟨_, _, hO⟩, ItB.new g1, ItB.new g2⟩, fun c m => ?_, q⟩
      have hle : s1.heap.objs.size ≤ c := by
        rcases mem5 m with z | z | z | z | z
        · rw [z]; exact Nat.le_add_right _ _
        · rw [z]; exact Nat.le_add_right _ _
        · rw [z]; exact Nat.le_add_right _ _
        · rw [z]; exact Nat.le_refl _
        · rw [z]; exact Nat.le_add_right _ _
      exact I1.fpOk hle (I1.hok.fresh hle)⟩

/-! enumerate -/
def IteB (K : PySem.W.Frag) (k : Bool) (a : Addr) : It :=
  ⟨fun i H => ∃ (xs : List V) (x : V), SqB K k H a xs ∧ xs[i]? = some x,
    fun i H v H' => ∃ T x, v = .ref T ∧ H T = none ∧ H' = upd H T (.tup [.int (i : Nat), x]) ∧ ∀ xs, SqB K k H a xs → xs[i]? = some x,
    fun i H => ∃ xs : List V, SqB K k H a xs ∧ i = xs.length⟩
def AtE (k : Bool) (a e it : Addr) (i : Nat) (h : Heap) : Prop := (∃ old, IsEnum h e it (0 + (i : Int)) old) ∧ ItB k h it a i
theorem mem2 {c e it : Addr} (h : c ∈ [e, it]) : c = e ∨ c = it := by simpa using h
theorem goE {X : Cx} {pins : List (Addr × Obj)} {σ : L2.St} {H : Hp} {s : Shared} (I : Inv X pins σ H s) (hc : X.calm = true) {elts : List Expr} {kk : Nat} {tpos : Pos} {k : Bool} {a e it : Addr} (h1 : a ≠ it) (h2 : e ≠ it) (h3 : e ≠ a) (us : List Value) :
    GoesN X.prog X.w X.A (.Tuple elts kk tpos) e (e :: [it, a]) [e, it] us.toArray.size (fun i h₀ v h => ∃ T t x, v = .ref T ∧ h₀.objs.size ≤ T ∧ us.toArray[i]? = some x ∧ h.IsTuple T #[.int (0 + (i : Int)) t, x])
      (fun i h => (∃ old, IsEnum h e it (0 + (i : Int)) old) ∧ ItB k h it a i ∧ CoB k h a us.toArray) :=
  GoesN.enumFrom 0 (drwB (A := X.A.in1) (I.ok.hd hc) k it a h1 us.toArray) e h2 (by simp [h2, h3]) (by simp)
theorem turn_enumB {P : Program} {w : World} {K : PySem.W.Frag} {elts : List Expr} {kk : Nat} {tpos : Pos} {k : Bool} {a e it : Addr} (h1 : a ≠ it) (h2 : e ≠ it) (h3 : e ≠ a) :
    Turn P w K (.Tuple elts kk tpos) (IteB K k a) [e, it] e (AtE k a e it) where
  mem := by simp
  obj := fun i h st c hc => by
    obtain ⟨⟨old, he⟩, q1⟩ := st
    rcases mem2 hc with q | q
    · rw [q]; exact ⟨_, he, fun v q => nomatch q⟩
    · rw [q]; exact q1.obj
  keep := fun i h h' st k => by
    obtain ⟨⟨old, he⟩, q1⟩ := st
    exact ⟨⟨old, k e (by simp) _ he⟩, q1.at fun o q => k it (by simp) o q⟩
  item := by
    intro X hP hw hK hc i pins s σ H E I hf st hg
    subst hP hw hK
    obtain ⟨xs, x, sx, ex⟩ := hg
    obtain ⟨us, rx, cx⟩ := SqB.of I sx
    obtain ⟨u, hu, ru⟩ := rx.get ex
    obtain ⟨lu, eu⟩ := List.getElem?_eq_some_iff.mp hu
    obtain ⟨he, q1⟩ := st
    refine (goE I hc h1 h2 h3 us).goes i s (fun v s2 => ∃ x H', Inv X pins σ H' s2 ∧ RelV x v ∧ (IteB X.K k a).yld i H x H' ∧ AtE k a e it (i + 1) s2.heap ∧ ∀ b ∈ [e, it], H' b = none) E (by rw [List.size_toArray]; exact lu) ⟨he, q1, cx⟩ fun v h' tk yy st' hk htk => ?_
    obtain ⟨T, t, p, rfl, hT, hp, isT⟩ := yy
    obtain ⟨he', q1', _⟩ := st'
    have e1 : p = u := by
      have z : us.toArray[i]? = some p := hp
      rw [List.getElem?_toArray, hu] at z
      exact (Option.some.inj z).symm
    subst e1
    obtain ⟨oT, gT, cT, nT, dT⟩ := isT
    have ei : (0 : Int) + (i : Int) = ((i : Nat) : Int) := by omega
    rw [ei] at dT
    have new : ObjOk X.prog X.w (upd H T (.tup [.int (i : Nat), x])) h' T (.tup [.int (i : Nat), x]) := ⟨by show 2 ≤ sizeLine; decide, [.int (i : Nat) t, p], .cons ⟨_, rfl⟩ (.cons ru .nil), ⟨oT, gT, cT, nT, dT⟩⟩
    have I1 : Inv X pins σ (upd H T (.tup [.int (i : Nat), x])) { s with heap := h', toks := tk } :=
      I.turnedNew (ch := [e, it]) (fun c o hb q' => hk c o hb q') hf hT new
    refine ⟨.ref T, _, I1, rfl, ⟨T, x, rfl, I.hok.fresh hT, rfl, fun l hl => by rw [SqB.inj I hl sx]; exact ex⟩, ⟨he', q1'⟩, fun c hcm => ?_⟩
    have hlt : c < s.heap.objs.size := by
      obtain ⟨old, he⟩ := he
      rcases mem2 hcm with m | m
      · rw [m]; exact Heap.lt_size he
      · rw [m]; obtain ⟨_, g, _⟩ := q1.obj; exact Heap.lt_size g
    rw [upd_ne (Nat.ne_of_lt (Nat.lt_of_lt_of_le hlt hT))]
    exact (hf c hcm).1
  done := by
    intro X hP hw hK hc i pins s σ H E I hf st hg
    subst hP hw hK
    obtain ⟨xs, sx, ei⟩ := hg
    obtain ⟨us, rx, cx⟩ := SqB.of I sx
    obtain ⟨he, q1⟩ := st
    have en : i = us.toArray.size := by rw [List.size_toArray, ← rx.length]; exact ei
    subst en
    exact (goE (elts := elts) (kk := kk) (tpos := tpos) I hc h1 h2 h3 us).stops s (fun s1 => Inv X pins σ H s1) E ⟨he, q1, cx⟩ fun h' tk hk htk => I.turnedL (ch := [e, it]) (fun c o hb q' => hk c o hb q') hf
  self := fun A i s Q E st h => let ⟨⟨_, he⟩, _⟩ := st; wpAny_pyIter_enum he h
set_option maxHeartbeats 1000000 in
theorem enum1_meets {u : Value} {ob : Obj} {C : Heap → Prop} (B : Begins u ob C) :
    Meets (Builtin.«enumerate.__new__» ⟨[.type "enumerate", u], []⟩) (fun _ R s => C s.heap ∧ R (.ok (.ret (.ref (s.heap.push ob).objs.size))) { s with heap := (s.heap.push ob).push { cls := .type "enumerate", data := .fields #[.none, .bool false, .ref s.heap.objs.size, rawInt 0, .none, .none] } }) :=
  .of_wp fun prog w A R s ⟨c, hR⟩ => by
    obtain ⟨hp, gn, dr, tk, os⟩ := s
    have sub1 := sub_enumerate
    have it1 : ∀ {A1 : Around} {E1 : Value → Shared → Prop} {Q1 : Value → Shared → Prop}, Q1 (.ref hp.objs.size) ⟨hp.push ob, gn, dr, tk, os⟩ → wpAny (model prog w) A1 (pyIter u) Q1 E1 ⟨hp, gn, dr, tk, os⟩ :=
      fun z => B.iter prog w _ _ ⟨hp, gn, dr, tk, os⟩ _ c z
    wp_walk using it1
    refine wpAny_stack_any fun _ => wpAny_pure ?_
    split
    · rename_i cl _ _ _ _ _
      cases (cl == Value.type "enumerate") <;> (wp_walk using it1; exact ⟨_, rfl, hR⟩)
    · wp_walk using it1
      exact ⟨_, rfl, hR⟩
theorem enum1_begins {P : Program} {w : World} {A : Around} {E : Value → Shared → Prop} {s : Shared} {u : Value} {ob : Obj} {C : Heap → Prop} {Q : Value → Shared → Prop} (B : Begins u ob C) (c : C s.heap)
    (h : ∀ h', IsEnum h' (s.heap.objs.size + 1) s.heap.objs.size 0 .none → h'.get? s.heap.objs.size = some ob → (∀ b o, s.heap.get? b = some o → h'.get? b = some o) → Q (.ref (s.heap.objs.size + 1)) { s with heap := h' }) :
    wpAny (model P w) A (call (.type "enumerate") [u]) Q E s := by
  refine callType_new F.called_enumerate (by decide) (F.typeCall_enumerate_1 _) (F.newCall_enumerate_1 _) (fun obj => F.args_object_init_2 obj _) F.entry_enumerate_new (enum1_meets B) ⟨c, ?_⟩
  have z1 : (s.heap.push ob).objs.size = s.heap.objs.size + 1 := Heap.size_push ..
  show _ ∧ _
  have g := Heap.get?_push_size (s.heap.push ob) (o := { cls := .type "enumerate", data := .fields #[.none, .bool false, .ref s.heap.objs.size, rawInt 0, .none, .none] }) rfl
  rw [z1] at g ⊢
  exact ⟨⟨_, g, rfl⟩, h _ g (Heap.get?_push_of_some _ (Heap.get?_push_size _ B.free)) fun b o x => Heap.get?_push_of_some _ (Heap.get?_push_of_some _ x)⟩
def iEnumB (K : PySem.W.Frag) (ta : TA) : TI := fun σ H R => ta σ H fun vs H1 => ∃ (k : Bool) (a : Addr) (xs : List V), vs = [.ref a] ∧ SqB K k H1 a xs ∧ R (IteB K k a) H1
theorem pi_enumB {X : Cx} {e : Expr} {ta : TA} {p pos tpos : Pos} {elts : List Expr} {kk : Nat} (hg : Gl X "enumerate") (hm : X.mg "enumerate" = none) (ha : PA X [e] ta) (hs : starEach [e] X.env = [(false, eval e X.env)] := by rfl) :
    PI X (.Tuple elts kk tpos) (.Call (.Name "enumerate" p) [e] [] pos) (iEnumB X.K ta) := ⟨fun pins s σ H R I h => by
  refine Call_ (ld_blt I hg hm boot_enumerate (PyProof.Rows.callWith_type1 (thn (ha.run pos pins s σ H _ I h) fun us s1 ⟨vs, H1, I1, r1, q1⟩ => ?_) hs rfl))
  obtain ⟨k, a, xs, rfl, sx, q⟩ := q1
  cases r1 with
  | cons r rr =>
    cases rr
    cases r
    obtain ⟨us, rx, cx⟩ := SqB.of I1 sx
    refine enum1_begins (begB k a us.toArray) cx fun h' he g1 hk => wpAny_pyIter_enum he ?_
    have I2 : Inv X pins σ H1 { s1 with heap := h' } := I1.kept (t' := s1.toks) hk
    refine ⟨s1.heap.objs.size + 1, [s1.heap.objs.size + 1, s1.heap.objs.size], _, _, H1, rfl, I2,
      turn_enumB (Nat.ne_of_lt cx.lt) (Nat.succ_ne_self _) (Nat.ne_of_gt (Nat.lt_succ_of_lt cx.lt)), ⟨⟨.none, he⟩, ItB.new g1⟩, fun c m => ?_, q⟩
    have hle : s1.heap.objs.size ≤ c := by
      rcases mem2 m with z | z
      · rw [z]; exact Nat.le_add_right _ _
      · rw [z]; exact Nat.le_refl _
    exact I1.fpOk hle (I1.hok.fresh hle)⟩

/-! their rules -/
/-- a sequence of either kind, for a walk -/
def wkS (w : W) (S : Store) : Option Wk := match wkL w S with
  | some x => some x
  | none => wkT w
theorem wkS_ok {K : PySem.W.Frag} {η : List Addr} {H : Hp} {S : Store} {w : W} {v : V} {x : Wk} (e : wkS w S = some x) (rp : Rp K η H S) (r : RepW K η H w v) : ∃ (k : Bool) (a : Addr) (vs : List V), v = .ref a ∧ SqB K k H a vs ∧ StayW K x η H (fun H' vs => SqB K k H' a vs) := by
  unfold wkS at e
  split at e
  · rename_i y q
    cases e
    exact ⟨true, wkL_ok q rp r⟩
  · exact ⟨false, wkT_ok e r⟩
def ItsB (K : PySem.W.Frag) (k : Bool) (a : Addr) : It := match k with
  | true => Itl K a
  | false => Itt K a
theorem turn_seqB {P : Program} {w : World} {K : PySem.W.Frag} {tg : Expr} (k : Bool) (a it : Addr) : Turn P w K tg (ItsB K k a) [it] it (fun i h => ItB k h it a i) := by
  cases k
  · exact turn_tuple a it
  · exact turn_list a it
theorem walk_s {k : Bool} {K : PySem.W.Frag} {η : List Addr} {H : Hp} {a : Addr} {x : Wk} (st : StayW K x η H (fun H' vs => SqB K k H' a vs)) : WalkOk K x η H (ItsB K k a) := by
  cases k
  · exact walk_t st
  · exact walk_l st
def iSeqB (K : PySem.W.Frag) (te : TE) : TI := fun σ H R => te σ H fun v H1 => ∃ (k : Bool) (a : Addr) (xs : List V), v = .ref a ∧ SqB K k H1 a xs ∧ R (ItsB K k a) H1
theorem pi_seqB {X : Cx} {tg e : Expr} {te : TE} (he : PE X e te) : PI X tg e (iSeqB X.K te) := ⟨fun pins s σ H R I h => thn (he.run pins s σ H _ I h) fun u s1 ⟨v, H1, I1, r1, k, a, xs, hv, sx, q⟩ => by
  subst hv
  cases r1
  obtain ⟨us, rx, cx⟩ := SqB.of I1 sx
  refine (begB k a us.toArray).iter _ _ _ _ _ _ cx ⟨s1.heap.objs.size, [s1.heap.objs.size], _, _, H1, rfl, I1.kept (t' := s1.toks) fun b o z => Heap.get?_push_of_some _ z, turn_seqB k a _, ItB.new (Heap.get?_push_size _ (begB k a us.toArray).free), fun b m => ?_, q⟩
  rw [List.mem_singleton.mp m]
  exact I1.fpOk (Nat.le_refl _) (I1.hok.fresh (Nat.le_refl _))⟩
def fItS (a : FE) : FK := fun ρ S => (a ρ S).bind fun w S1 => seqR (wkS w S1) S1
theorem w_seq {X : Cx} {ct : Nat → Option Addr} {E : EX} {tg e : Expr} {f : FE} (he : PE X e (tF (gx X ct) E f)) : PI X tg e (tI (gx X ct) E (fItS f)) := PIw (pi_seqB he) fun σ H R ⟨η, ρ, S, rp, er, h⟩ =>
  ⟨η, ρ, S, rp, er, FinR.mono (FinR.bind (rel := relW (gx X ct)) h) fun v H1 ⟨η1, w, S1, f1, rp1, r1, h1⟩ => by
    obtain ⟨x, e1, h2⟩ := seqR_fin h1
    obtain ⟨k, a, vs, rfl, hq, st⟩ := wkS_ok e1 rp1 r1
    exact ⟨k, a, vs, rfl, hq, h2 η1 H1 _ (Fu.refl _ _) rp1 (walk_s st)⟩⟩
def pairW (u v : W) : W := mkT [u, v]
def zipK (ws : List W) (S : Store) : R Wk := match ws with
  | [u, v] => match wkS u S, wkS v S with
    | some x, some y => .ok ⟨List.zipWith pairW x.xs y.xs, fun S' => x.ok S' ∧ y.ok S'⟩ S
    | _, _ => .bad
  | _ => .bad
def enumW : Nat → List W → List W
  | _, [] => []
  | i, w :: ws => mkT [.d (.int (i : Nat)), w] :: enumW (i + 1) ws
def enumK (ws : List W) (S : Store) : R Wk := match ws with
  | [u] => match wkS u S with
    | some x => .ok ⟨enumW 0 x.xs, x.ok⟩ S
    | none => .bad
  | _ => .bad
theorem RepW.pair {K : PySem.W.Frag} {η : List Addr} {H : Hp} {w u : W} {v v' : V} {T : Addr} (hT : H T = none) (r : RepW K η H w v) (r' : RepW K η H u v') : RepW K η (upd H T (.tup [v, v'])) (mkT [w, u]) (.ref T) :=
  RepWs.mk (SqT.of upd_same) (.cons (RepW.fu (fu_new hT) _ _ r) (.cons (RepW.fu (fu_new hT) _ _ r') .nil))
theorem walk_z {k1 k2 : Bool} {K : PySem.W.Frag} {η : List Addr} {H : Hp} {a b : Addr} {x y : Wk} (s1 : StayW K x η H (fun H' vs => SqB K k1 H' a vs)) (s2 : StayW K y η H (fun H' vs => SqB K k2 H' b vs)) :
    WalkOk K ⟨List.zipWith pairW x.xs y.xs, fun S' => x.ok S' ∧ y.ok S'⟩ η H (ItzB K k1 k2 a b) where
  stop := fun η' H' S' f rp ok => by
    obtain ⟨vs, h1, h2⟩ := s1 η' H' S' f rp ok.1
    obtain ⟨us, h3, h4⟩ := s2 η' H' S' f rp ok.2
    exact ⟨vs, us, h1, h3, by rw [List.length_zipWith, h2.length, h4.length]⟩
  go := fun η' H' S' i w f rp ok e => by
    obtain ⟨vs, h1, h2⟩ := s1 η' H' S' f rp ok.1
    obtain ⟨us, h3, h4⟩ := s2 η' H' S' f rp ok.2
    obtain ⟨p, q, ep, eq, ew⟩ := List.getElem?_zipWith_eq_some.mp e
    obtain ⟨v, ev, rv⟩ := h2.get ep
    obtain ⟨u, eu, ru⟩ := h4.get eq
    refine ⟨⟨vs, us, v, u, h1, h3, ev, eu⟩, fun z H'' yl => ?_⟩
    obtain ⟨T, v', u', rfl, hT, rfl, c1, c2⟩ := yl
    have e1 := c1 vs h1
    have e2 := c2 us h3
    rw [ev] at e1
    rw [eu] at e2
    cases e1
    cases e2
    rw [← ew]
    exact ⟨fu_new hT, rp.new hT, RepW.pair hT rv ru⟩
theorem enumW_length : ∀ (ws : List W) (i : Nat), (enumW i ws).length = ws.length
  | [], _ => rfl
  | _ :: ws, i => by rw [enumW, List.length_cons, List.length_cons, enumW_length ws]
theorem enumW_get : ∀ {ws : List W} {j i : Nat} {w : W}, (enumW j ws)[i]? = some w → ∃ u, ws[i]? = some u ∧ w = mkT [.d (.int ((j + i : Nat) : Int)), u]
  | [], _, _, _, e => by rw [enumW] at e; simp at e
  | u :: ws, j, 0, w, e => by
    rw [enumW] at e
    simp at e
    exact ⟨u, by simp, e.symm⟩
  | u :: ws, j, i + 1, w, e => by
    rw [enumW] at e
    obtain ⟨t, e1, e2⟩ := enumW_get (ws := ws) (j := j + 1) (i := i) (by simpa using e)
    refine ⟨t, by simpa using e1, ?_⟩
    rw [e2]
    have z : j + 1 + i = j + (i + 1) := by omega
    rw [z]
theorem walk_e {k : Bool} {K : PySem.W.Frag} {η : List Addr} {H : Hp} {a : Addr} {x : Wk} (s1 : StayW K x η H (fun H' vs => SqB K k H' a vs)) : WalkOk K ⟨enumW 0 x.xs, x.ok⟩ η H (IteB K k a) where
  stop := fun η' H' S' f rp ok => by
    obtain ⟨vs, h1, h2⟩ := s1 η' H' S' f rp ok
    exact ⟨vs, h1, by show (enumW 0 x.xs).length = vs.length; rw [enumW_length, h2.length]⟩
  go := fun η' H' S' i w f rp ok e => by
    obtain ⟨vs, h1, h2⟩ := s1 η' H' S' f rp ok
    obtain ⟨p, ep, rfl⟩ := enumW_get e
    obtain ⟨v, ev, rv⟩ := h2.get ep
    refine ⟨⟨vs, v, h1, ev⟩, fun z H'' yl => ?_⟩
    obtain ⟨T, v', rfl, hT, rfl, c1⟩ := yl
    have e1 := c1 vs h1
    rw [ev] at e1
    cases e1
    rw [Nat.zero_add]
    exact ⟨fu_new hT, rp.new hT, RepW.pair hT (.d (.int _)) rv⟩
section
variable {X : Cx} {ct : Nat → Option Addr} {E : EX}
theorem w_zip {e e2 : Expr} {fa : FA} {p pos tpos : Pos} {elts : List Expr} {kk : Nat} (hg : Gl X "zip") (hm : X.mg "zip" = none) (ha : PA X [e, e2] (tA (gx X ct) E fa))
    (hs : starEach [e, e2] X.env = (false, eval e X.env) :: starEach [e2] X.env := by rfl) (hpl : (backTo pos (starEach [e2] X.env)).any (·.1) = false := by rfl) :
    PI X (.Tuple elts kk tpos) (.Call (.Name "zip" p) [e, e2] [] pos) (tI (gx X ct) E (fRng zipK fa)) := PIw (pi_zipB hg hm ha hs hpl) fun σ H R ⟨η, ρ, S, rp, er, h⟩ => ⟨η, ρ, S, rp, er, by
    refine FinR.mono (FinR.bind (rel := relL (gx X ct)) h) fun v H1 ⟨η1, w, S1, f1, rp1, r1, h1⟩ => ?_
    unfold zipK at h1
    split at h1
    · rename_i u t
      split at h1
      · rename_i x y ex ey
        obtain ⟨v1, v2, rfl, r2, r3⟩ := repWs2 r1
        obtain ⟨k1, a, vs, rfl, q1, s1⟩ := wkS_ok ex rp1 r2
        obtain ⟨k2, b, us, rfl, q2, s2⟩ := wkS_ok ey rp1 r3
        exact ⟨k1, k2, a, b, vs, us, rfl, q1, q2, h1 η1 H1 _ (Fu.refl _ _) rp1 (walk_z s1 s2)⟩
      · exact h1.elim
    · exact h1.elim⟩
theorem w_enum {e : Expr} {fa : FA} {p pos tpos : Pos} {elts : List Expr} {kk : Nat} (hg : Gl X "enumerate") (hm : X.mg "enumerate" = none) (ha : PA X [e] (tA (gx X ct) E fa)) (hs : starEach [e] X.env = [(false, eval e X.env)] := by rfl) :
    PI X (.Tuple elts kk tpos) (.Call (.Name "enumerate" p) [e] [] pos) (tI (gx X ct) E (fRng enumK fa)) := PIw (pi_enumB hg hm ha hs) fun σ H R ⟨η, ρ, S, rp, er, h⟩ => ⟨η, ρ, S, rp, er, by
    refine FinR.mono (FinR.bind (rel := relL (gx X ct)) h) fun v H1 ⟨η1, w, S1, f1, rp1, r1, h1⟩ => ?_
    unfold enumK at h1
    split at h1
    · rename_i u
      split at h1
      · rename_i x ex
        obtain ⟨v1, rfl, r2⟩ := repWs1 r1
        obtain ⟨k, a, vs, rfl, q1, s1⟩ := wkS_ok ex rp1 r2
        exact ⟨k, a, vs, rfl, q1, h1 η1 H1 _ (Fu.refl _ _) rp1 (walk_e s1)⟩
      · exact h1.elim
    · exact h1.elim⟩
end
end VI
set_option Elab.async false
set_option linter.all false
set_option maxRecDepth 100000
namespace VI
open PySem PySem.Spec PyProof.Rows L2
open Classical

/-! for -/
/-- the turns of a loop -/
noncomputable def forL (ok : Store → Prop) (g : FG) (b : FS) : List W → Rho → Store → RF
  | [], ρ, S => if ok S then .next ρ S else .bad
  | w :: ws, ρ, S => if ok S then (match g w ρ with
    | none => .bad
    | some ρ1 => match b ρ1 S with
      | .next ρ2 S2 => forL ok g b ws ρ2 S2
      | .cnt ρ2 S2 => forL ok g b ws ρ2 S2
      | .brk ρ2 S2 => .next ρ2 S2
      | r => r) else .bad
noncomputable def fFor (it : FK) (g : FG) (b : FS) : FS := fun ρ S => toS ρ (it ρ S) fun x S1 => forL x.ok g b x.xs ρ S1
section
variable {X : Cx} {ct : Nat → Option Addr} {E : EX}
theorem for_ok {ok : Store → Prop} {g : FG} {b : FS} {ws : List W} {ρ : Rho} {S : Store} {η : List Addr} {H : Hp} {D : Ends} (h : FinS (gx X ct) E η H (forL ok g b ws ρ S) D) : ok S := by
  by_cases q : ok S
  · exact q
  · cases ws <;> (rw [forL, if_neg q] at h; exact h.elim)
theorem s_for {tg iter : Expr} {body : List Stmt} {it : FK} {g : FG} {b : FS} {pos : Pos} (hp : PassesOwn (model X.prog X.w) X.A X.env X.xe) (hc : X.calm = true) (hi : PI X tg iter (tI (gx X ct) E it)) (hg : PG X tg (tG (gx X ct) g)) (hb : PSs X body (tS (gx X ct) E b))
    (hs : ∀ x, foldedSetIterable iter X.env x = pure x := by intro _; rfl) : PS X (.For tg iter body [] pos) (tS (gx X ct) E (fFor it g b)) := PSw (ps_for hp hc hi hg hb hs) fun D σ H ⟨η, ρ, S, rp, er, h⟩ =>
  ⟨η, ρ, S, rp, er, FinR.mono (FinS.bind er h) fun J H1 ⟨η1, x, S1, f1, rp1, wk, h1⟩ => by
    refine ⟨fun i m σ H => m = x.xs.length - i ∧ i ≤ x.xs.length ∧ ∃ η' ρ' S', Fu η1 H1 η' H ∧ Rp X.K η' H S' ∧ ERep X.K η' H ρ' σ ∧ FinS (gx X ct) E η' H (forL x.ok g b (x.xs.drop i) ρ' S') D,
      ⟨x.xs.length, rfl, Nat.zero_le _, η1, ρ, S1, Fu.refl _ _, rp1, er.fu f1, h1⟩, ?_⟩
    rintro i m σ H ⟨rfl, hi, η', ρ', S', f', rp', er', h'⟩
    have ok := for_ok h'
    by_cases hlt : i < x.xs.length
    · have ew : x.xs[i]? = some x.xs[i] := List.getElem?_eq_getElem hlt
      rw [List.drop_eq_getElem_cons hlt, forL, if_pos ok] at h'
      obtain ⟨go, yl⟩ := wk.go η' H S' i _ f' rp' ok ew
      refine .inr ⟨go, fun σ H => ∃ η' ρ' S', Fu η1 H1 η' H ∧ Rp X.K η' H S' ∧ ERep X.K η' H ρ' σ ∧ FinS (gx X ct) E η' H (forL x.ok g b (x.xs.drop (i + 1)) ρ' S') D, fun σ' H' q => ⟨_, by omega, rfl, hlt, q⟩, fun y H' yy => ?_⟩
      obtain ⟨f2, rp2, r2⟩ := yl y H' yy
      cases eg : g x.xs[i] ρ' with
      | none => rw [eg] at h'; exact h'.elim
      | some ρ1 =>
        rw [eg] at h'
        dsimp only at h'
        refine ⟨η', ρ', _, ρ1, r2, er'.fu f2, eg, fun σ2 er2 => ⟨η', ρ1, S', rp2, er2, ?_⟩⟩
        have h2 := FinS.fu f2 h'
        have f3 := f'.trans f2
        cases eb : b ρ1 S' with
        | next ρ2 S2 => rw [eb] at h2; exact fun η3 H3 σ3 f4 rp3 er3 => ⟨η3, ρ2, S2, f3.trans f4, rp3, er3, FinS.fu f4 h2⟩
        | cnt ρ2 S2 => rw [eb] at h2; exact fun η3 H3 σ3 f4 rp3 er3 => ⟨η3, ρ2, S2, f3.trans f4, rp3, er3, FinS.fu f4 h2⟩
        | brk ρ2 S2 => rw [eb] at h2; exact h2
        | ret w S2 => rw [eb] at h2; exact h2
        | exc c fs ρ2 S2 => rw [eb] at h2; exact h2
        | bad => rw [eb] at h2; exact h2
    · have ei : i = x.xs.length := by omega
      subst ei
      rw [List.drop_eq_nil_of_le (Nat.le_refl _), forL, if_pos ok] at h'
      exact .inl ⟨wk.stop η' H S' f' rp' ok, h' η' H σ (Fu.refl _ _) rp' er'⟩⟩
end

/-! comprehensions -/
def wipeR (ρ : Rho) : List Nat → Rho
  | [] => ρ
  | v :: vs => (wipeR ρ vs).set v none
theorem ERep.drop1 {K : PySem.W.Frag} {η : List Addr} {H : Hp} {ρ : Rho} {σ : L2.St} (e : ERep K η H ρ σ) (i : Nat) : ERep K η H (ρ.set i none) (σ.set i none) := by
  refine ⟨by rw [List.length_set, List.length_set]; exact e.1, fun j w h => ?_⟩
  by_cases hj : j = i
  · subst hj
    rw [List.getElem?_set] at h
    simp at h
  · rw [List.getElem?_set_ne (Ne.symm hj)] at h
    rw [List.getElem?_set_ne (Ne.symm hj)]
    exact e.2 j w h
theorem ERep.wipe {K : PySem.W.Frag} {η : List Addr} {H : Hp} {ρ : Rho} {σ : L2.St} (e : ERep K η H ρ σ) : ∀ vs : List Nat, ERep K η H (wipeR ρ vs) (L2.wipe σ vs)
  | [] => e
  | v :: vs => (ERep.wipe e vs).drop1 v
theorem wipe_at (σ : L2.St) (j : Nat) : ∀ vs : List Nat, (L2.wipe σ vs)[j]? = if j ∈ vs ∧ j < σ.length then some none else σ[j]?
  | [] => by simp [L2.wipe]
  | v :: vs => by
    rw [L2.wipe, List.getElem?_set, wipe_at σ j vs, wipe_length]
    by_cases e : v = j
    · subst e
      by_cases l : v < σ.length
      · simp [l]
      · simp [l, List.getElem?_eq_none (Nat.le_of_not_lt l)]
    · have : j ≠ v := fun z => e z.symm
      simp [e, this]
theorem wipe_set {σ : L2.St} {i : Nat} {x : Option V} {vs : List Nat} (h : i ∈ vs) : L2.wipe (σ.set i x) vs = L2.wipe σ vs := by
  refine List.ext_getElem? fun j => ?_
  rw [wipe_at, wipe_at, List.length_set]
  by_cases e : j ∈ vs ∧ j < σ.length
  · rw [if_pos e, if_pos e]
  · rw [if_neg e, if_neg e]
    by_cases z : i = j
    · subst z
      have : ¬ i < σ.length := fun l => e ⟨h, l⟩
      rw [List.getElem?_eq_none (by rw [List.length_set]; omega), List.getElem?_eq_none (by omega)]
    · rw [List.getElem?_set_ne z]
/-- targets of a block's own names -/
def tGb (G : Gc) (vs : List Nat) (g : FG) : TG := fun v σ H Q => ∃ η ρ w ρ', RepW G.K η H w v ∧ ERep G.K η H ρ σ ∧ g w ρ = some ρ' ∧ ∀ σ', ERep G.K η H ρ' σ' → L2.wipe σ' vs = L2.wipe σ vs → Q σ' H
def tGbs (G : Gc) (vs : List Nat) (g : FGs) : TGs := fun us σ H Q => ∃ η ρ ws ρ', RepWs G.K η H ws us ∧ ERep G.K η H ρ σ ∧ g ws ρ = some ρ' ∧ ∀ σ', ERep G.K η H ρ' σ' → L2.wipe σ' vs = L2.wipe σ vs → Q σ' H
section
variable {X : Cx} {G : Gc} {vs : List Nat}
theorem gb_name (i : Nat) {x : Str} {pos : Pos} (hN : X.N.Nodup) (hG : G.K = X.K) (hm : i ∈ vs) (hi : X.N[i]? = some x := by rfl) (hx : Loc X.env.scope x := by first | exact Or.inl rfl | exact Or.inr rfl) (hf : X.fn x = true ∨ X.env.scope.names.lookup x = some .local := by first | exact .inl rfl | exact .inr rfl) :
    PG X (.Name x pos) (tGb G vs (gtName i)) := PGw (pg_name hN hi hx hf) fun v σ H Q ⟨η, ρ, w, ρ', r, er, e, h⟩ => by
  cases e
  exact h _ (er.set r) (wipe_set hm)
theorem gbs_nil : PGs X [] (tGbs G vs gtNil) := PGsw pgs_nil fun v σ H Q ⟨η, ρ, w, ρ', r, er, e, h⟩ => by
  unfold gtNil at e
  split at e
  · cases e
    cases r
    exact ⟨rfl, h _ er rfl⟩
  · cases e
theorem gbs_cons {e : Expr} {es : List Expr} {g : FG} {gs : FGs} (h1 : PG X e (tGb G vs g)) (h2 : PGs X es (tGbs G vs gs)) (hs : (assignEach (e :: es) X.env).map (·.2) = assign e X.env :: (assignEach es X.env).map (·.2) := by rfl) :
    PGs X (e :: es) (tGbs G vs (gtCons g gs)) := PGsw (pgs_cons h1 h2 hs) fun v σ H Q ⟨η, ρ, w, ρ', r, er, e, h⟩ => by
  unfold gtCons at e
  split at e
  · rename_i w0 ws
    cases r with
    | cons r1 r2 =>
      split at e
      · rename_i ρ1 e1
        exact ⟨_, _, rfl, η, ρ, w0, ρ1, r1, er, e1, fun σ1 er1 z1 => ⟨η, ρ1, ws, ρ', r2, er1, e, fun σ2 er2 z2 => h σ2 er2 (z2.trans z1)⟩⟩
      · cases e
  · cases e
theorem gb_tup {es : List Expr} {k n : Nat} {pos : Pos} {gs : FGs} (hc : X.calm = true) (hG : G.K = X.K) (h : PGs X es (tGbs G vs gs)) (hn : (assignEach es X.env).length = n := by rfl) (hst : (assignEach es X.env).findIdx? (·.1) = none := by rfl) :
    PG X (.Tuple es k pos) (tGb G vs (gtTup n gs)) := PGw (pg_tup hc h hn hst) fun v σ H Q ⟨η, ρ, w, ρ', r, er, e, h⟩ => by
  unfold gtTup at e
  split at e
  · rename_i ws e1
    obtain ⟨a, us, rfl, h1, h2⟩ := asTW_ok e1 r
    split at e
    · rename_i hl
      exact ⟨a, us, rfl, hG ▸ h1, by rw [← h2.length]; exact hl, η, ρ, ws, ρ', h2, er, e, h⟩
    · cases e
  · cases e
end
def noX {α : Type} : R α → R α
  | .exc _ _ _ => .bad
  | r => r
theorem FinR.noX {α β : Type} {G : Gc} {rel : α → List Addr → Hp → β → Prop} {Z Z' : XK} {η : List Addr} {H : Hp} {r : R α} {Q : β → Hp → Prop} (h : FinR G rel Z η H (VI.noX r) Q) : FinR G rel Z' η H r Q := by
  cases r with
  | ok w S => exact h
  | exc c fs S => exact h.elim
  | bad => exact h
/-- a member joins the new list -/
def lcPut (l : Nat) (w : W) (S : Store) : Option Store := match w, S[l]? with
  | .d d, some (.lst ds) => if ds.length < lim then some (S.set l (.lst (ds ++ [d]))) else none
  | _, _ => none
noncomputable def lcL (ok : Store → Prop) (g : FG) (t : FT) (e : FE) (ρ : Rho) (l : Nat) : List W → Store → R W
  | [], S => if ok S then .ok (.loc l) S else .bad
  | w :: ws, S => if ok S then (match g w ρ with
    | none => .bad
    | some ρ1 => (noX (t ρ1 S)).bind fun k S1 => if k = true then (noX (frz S1.length (e ρ1 S1))).bind fun u S2 => (match lcPut l u S2 with
        | some S3 => lcL ok g t e ρ l ws S3
        | none => .bad) else lcL ok g t e ρ l ws S1) else .bad
noncomputable def fLcL (it : FK) (g : FG) (t : FT) (e : FE) (vs : List Nat) : FE := fun ρ S => (it ρ S).bind fun x S1 => lcL x.ok g t e (wipeR ρ vs) S1.length x.xs (S1 ++ [.lst []])
noncomputable def fLc (it : FK) (g : FG) (t : FT) (e : FE) (vs : List Nat) : FE := fun ρ S => frz S.length (fLcL it g t e vs ρ S)
def fYes : FT := fun _ S => .ok true S
section
variable {X : Cx} {ct : Nat → Option Addr} {E : EX}
theorem ts_nil {G : Gc} : PTs X [] (tT G E fYes) := ⟨fun pins s σ H Q I ⟨η, ρ, S, rp, er, h⟩ => pts_nil.run pins s σ H Q I (h η H true (Fu.refl _ _) rp rfl)⟩
theorem ts_one {G : Gc} {c : Expr} {t : FT} (h : PT X c (tT G E t)) : PTs X [c] (tT G E t) := pts_one h
theorem lc_ok {ok : Store → Prop} {g : FG} {t : FT} {e : FE} {ρ : Rho} {l : Nat} {ws : List W} {S : Store} {Z : XK} {η : List Addr} {H : Hp} {Q : VK} (h : FinR (gx X ct) (relW (gx X ct)) Z η H (lcL ok g t e ρ l ws S) Q) : ok S := by
  by_cases q : ok S
  · exact q
  · cases ws <;> (rw [lcL, if_neg q] at h; exact h.elim)
theorem lcPut_ok {l : Nat} {w : W} {S S' : Store} {η : List Addr} {H : Hp} {D : Addr} {y : V} {P : Hp → Prop} (e : lcPut l w S = some S') (rp : Rp X.K η H S) (hD : η[l]? = some D) (r : RepW X.K η H w y) (h : ∀ H', Fu η H η H' → Rp X.K η H' S' → P H') :
    ∃ acc, H D = some (.lst acc) ∧ acc.length < sizeLine ∧ P (upd H D (.lst (acc ++ [y]))) := by
  unfold lcPut at e
  split at e
  · rename_i d ds q
    split at e
    · rename_i hl
      cases e
      cases r with
      | d r =>
        obtain ⟨vs, h1, h2⟩ := rp.all _ _ _ hD q
        have f : Fu η H η (upd H D (.lst (vs ++ [y]))) := fu_write (List.mem_of_getElem? hD) h1 trivial
        exact ⟨vs, h1, by rw [← h2.length, sizeLine_eq]; exact hl, h _ f (rp.write hD ⟨_, upd_same, RepDs.fu f _ _ (h2.append (.cons r .nil))⟩)⟩
    · cases e
  · cases e
theorem lc_key {it : FK} {g : FG} {t : FT} {e : FE} {vs : List Nat} : ∀ σ H Q, tF (gx X ct) E (fLcL it g t e vs) σ H Q → tLc (tI (gx X ct) E it) (tGb (gx X ct) vs g) (tT (gx X ct) (fun _ => E0) t) (tF (gx X ct) (fun _ => E0) e) vs σ H Q := fun σ H Q ⟨η, ρ, S, rp, er, h⟩ =>
  ⟨η, ρ, S, rp, er, FinR.mono (FinR.bind (rel := relJ (gx X ct)) h) fun J H1 ⟨η1, x, S1, f1, rp1, wk, h1⟩ D hD => by
    have rp2 : Rp X.K (η1 ++ [D]) (upd H1 D (.lst [])) (S1 ++ [.lst []]) := rp1.live hD ⟨[], upd_same, .nil⟩
    have f2 : Fu η1 H1 (η1 ++ [D]) (upd H1 D (.lst [])) := fu_live hD
    have lD : S1.length = η1.length := rp1.len.symm
    refine ⟨fun i m H => m = x.xs.length - i ∧ i ≤ x.xs.length ∧ ∃ η' S', Fu (η1 ++ [D]) (upd H1 D (.lst [])) η' H ∧ Rp X.K η' H S' ∧ FinR (gx X ct) (relW (gx X ct)) (E σ) η' H (lcL x.ok g t e (wipeR ρ vs) S1.length (x.xs.drop i) S') Q,
      ⟨x.xs.length, rfl, Nat.zero_le _, η1 ++ [D], _, Fu.refl _ _, rp2, FinR.fu f2 h1⟩, ?_⟩
    rintro i m H ⟨rfl, hi, η', S', f', rp', h'⟩
    have ok := lc_ok h'
    have gD : ∀ {η2 : List Addr} {H2 : Hp}, Fu (η1 ++ [D]) (upd H1 D (.lst [])) η2 H2 → η2[S1.length]? = some D := fun f => f.get (by rw [lD, List.getElem?_append_right (Nat.le_refl _)]; simp)
    by_cases hlt : i < x.xs.length
    · have ew : x.xs[i]? = some x.xs[i] := List.getElem?_eq_getElem hlt
      rw [List.drop_eq_getElem_cons hlt, lcL, if_pos ok] at h'
      obtain ⟨go, yl⟩ := wk.go η' H S' i _ (f2.trans f') rp' ok ew
      refine .inr ⟨go, fun H => ∃ η' S', Fu (η1 ++ [D]) (upd H1 D (.lst [])) η' H ∧ Rp X.K η' H S' ∧ FinR (gx X ct) (relW (gx X ct)) (E σ) η' H (lcL x.ok g t e (wipeR ρ vs) S1.length (x.xs.drop (i + 1)) S') Q, fun H' q => ⟨_, by omega, rfl, hlt, q⟩, fun y H' yy => ?_⟩
      obtain ⟨f3, rp3, r3⟩ := yl y H' yy
      cases eg : g x.xs[i] (wipeR ρ vs) with
      | none => rw [eg] at h'; exact h'.elim
      | some ρ1 =>
        rw [eg] at h'
        dsimp only at h'
        have h2 := FinR.fu f3 h'
        have f4 := f'.trans f3
        refine ⟨η', wipeR ρ vs, _, ρ1, r3, (((er.fu f1).fu f2).fu f4).wipe vs, eg, fun σ2 er2 z2 => ⟨?_, η', ρ1, S', rp3, er2, ?_⟩⟩
        · rw [z2]
          refine List.ext_getElem? fun j => ?_
          rw [wipe_at, wipe_at, wipe_length]
          by_cases q : j ∈ vs ∧ j < σ.length
          · rw [if_pos q, if_pos q]
          · rw [if_neg q, if_neg q]
        refine FinR.noX (FinR.mono (FinR.bind (rel := relB) h2) fun k H5 ⟨η5, k', S5, f5, rp5, rk, h5⟩ => ?_)
        obtain rfl : k = k' := rk
        have f45 := f4.trans f5
        by_cases hk : k = true
        · rw [if_pos hk] at h5 ⊢
          refine ⟨η5, ρ1, S5, rp5, er2.fu f5, FinR.frz rp5 (FinR.noX (FinR.mono (FinR.bind (rel := relW (gx X ct)) h5) fun y H6 ⟨η6, u, S6, f6, rp6, r6, h6⟩ => ?_))⟩
          split at h6
          · rename_i S7 e7
            exact lcPut_ok (P := fun H => ∃ η' S', Fu (η1 ++ [D]) (upd H1 D (.lst [])) η' H ∧ Rp X.K η' H S' ∧ FinR (gx X ct) (relW (gx X ct)) (E σ) η' H (lcL x.ok g t e (wipeR ρ vs) S1.length (x.xs.drop (i + 1)) S') Q) e7 rp6 (gD (f45.trans f6)) r6 fun H7 f7 rp7 => ⟨η6, S7, (f45.trans f6).trans f7, rp7, FinR.fu f7 h6⟩
          · exact h6.elim
        · rw [if_neg hk] at h5 ⊢
          exact ⟨η5, S5, f45, rp5, h5⟩
    · have ei : i = x.xs.length := by omega
      subst ei
      rw [List.drop_eq_nil_of_le (Nat.le_refl _), lcL, if_pos ok] at h'
      exact .inl ⟨wk.stop η' H S' (f2.trans f') rp' ok, h' η' H _ (Fu.refl _ _) rp' (.loc (gD f'))⟩⟩
variable {elt tg iter : Expr} {ifs : List Expr} {scope : Scope} {own : List (Str × Nat)} {pos spos : Pos} {it : FK} {g : FG} {t : FT} {e : FE}
theorem i_lcL (hc : X.calm = true) (hN : X.N.Nodup) (hi : PI X tg iter (tI (gx X ct) E it)) (ok : BlkOk X.N X.env.scope scope own)
    (hg : ∀ (s : Shared) (H : Hp) (C : Addr) (cl : List (Str × Addr)) (fp : List Addr), PG (X.blk s H scope (compEnvC scope cl C X.env) fp) tg (tGb (gx X ct) (own.map (·.2)) g))
    (ht : ∀ (s : Shared) (H : Hp) (C : Addr) (cl : List (Str × Addr)) (fp : List Addr), PTs (X.blk s H scope (compEnvC scope cl C X.env) fp) ifs (tT (gx X ct) (fun _ => E0) t))
    (he : ∀ (s : Shared) (H : Hp) (C : Addr) (cl : List (Str × Addr)) (fp : List Addr), PE (X.blk s H scope (compEnvC scope cl C X.env) fp) elt (tF (gx X ct) (fun _ => E0) e)) (hs : ∀ x, foldedSetIterable iter X.env x = pure x := by intro _; rfl) :
    PE X (.ListComp elt [⟨tg, iter, ifs, 0⟩] scope pos) (tF (gx X ct) E (fLcL it g t e (own.map (·.2)))) := PEw (pe_lc hc hN hi ok hg ht he hs) lc_key
theorem i_lc (hc : X.calm = true) (hN : X.N.Nodup) (hi : PI X tg iter (tI (gx X ct) E it)) (ok : BlkOk X.N X.env.scope scope own)
    (hg : ∀ (s : Shared) (H : Hp) (C : Addr) (cl : List (Str × Addr)) (fp : List Addr), PG (X.blk s H scope (compEnvC scope cl C X.env) fp) tg (tGb (gx X ct) (own.map (·.2)) g))
    (ht : ∀ (s : Shared) (H : Hp) (C : Addr) (cl : List (Str × Addr)) (fp : List Addr), PTs (X.blk s H scope (compEnvC scope cl C X.env) fp) ifs (tT (gx X ct) (fun _ => E0) t))
    (he : ∀ (s : Shared) (H : Hp) (C : Addr) (cl : List (Str × Addr)) (fp : List Addr), PE (X.blk s H scope (compEnvC scope cl C X.env) fp) elt (tF (gx X ct) (fun _ => E0) e)) (hs : ∀ x, foldedSetIterable iter X.env x = pure x := by intro _; rfl) :
    PE X (.ListComp elt [⟨tg, iter, ifs, 0⟩] scope pos) (tF (gx X ct) E (fLc it g t e (own.map (·.2)))) := PEw (i_lcL hc hN hi ok hg ht he hs) fun σ H Q ⟨η, ρ, S, rp, er, h⟩ => ⟨η, ρ, S, rp, er, FinR.frz rp h⟩
theorem s_setLcL (i : Nat) {y : Str} {py : Pos} (hc : X.calm = true) (hN : X.N.Nodup) (hsw : swapsWith (.ListComp elt [⟨tg, iter, ifs, 0⟩] scope pos) (some (.Name y py)) spos.line X.env = pure true) (hi : PI X tg iter (tI (gx X ct) E it)) (ok : BlkOk X.N X.env.scope scope own)
    (hg : ∀ (s : Shared) (H : Hp) (C : Addr) (cl : List (Str × Addr)) (fp : List Addr), PG (X.blk s H scope (compEnvC scope cl C X.env) fp) tg (tGb (gx X ct) (own.map (·.2)) g))
    (ht : ∀ (s : Shared) (H : Hp) (C : Addr) (cl : List (Str × Addr)) (fp : List Addr), PTs (X.blk s H scope (compEnvC scope cl C X.env) fp) ifs (tT (gx X ct) (fun _ => E0) t))
    (he : ∀ (s : Shared) (H : Hp) (C : Addr) (cl : List (Str × Addr)) (fp : List Addr), PE (X.blk s H scope (compEnvC scope cl C X.env) fp) elt (tF (gx X ct) (fun _ => E0) e)) (hy : X.N[i]? = some y := by rfl) (hyl : X.env.scope.names.lookup y = some .local := by rfl) (hs : ∀ x, foldedSetIterable iter X.env x = pure x := by intro _; rfl) :
    PS X (.Assign [.Name y py] (.ListComp elt [⟨tg, iter, ifs, 0⟩] scope pos) spos) (tS (gx X ct) E (fAsg (fLcL it g t e (own.map (·.2))) (gtName i))) := PSw (ps_setLc hc hN hy hyl hsw hi ok hg ht he hs) fun D σ H ⟨η, ρ, S, rp, er, h⟩ =>
  lc_key _ _ _ ⟨η, ρ, S, rp, er, FinR.mono (FinS.bind er h) fun v H1 ⟨η1, w, S1, f1, rp1, r1, h1⟩ => h1 η1 H1 _ (Fu.refl _ _) rp1 ((er.fu f1).set r1)⟩
theorem s_setLc (i : Nat) {y : Str} {py : Pos} (hc : X.calm = true) (hN : X.N.Nodup) (hsw : swapsWith (.ListComp elt [⟨tg, iter, ifs, 0⟩] scope pos) (some (.Name y py)) spos.line X.env = pure true) (hi : PI X tg iter (tI (gx X ct) E it)) (ok : BlkOk X.N X.env.scope scope own)
    (hg : ∀ (s : Shared) (H : Hp) (C : Addr) (cl : List (Str × Addr)) (fp : List Addr), PG (X.blk s H scope (compEnvC scope cl C X.env) fp) tg (tGb (gx X ct) (own.map (·.2)) g))
    (ht : ∀ (s : Shared) (H : Hp) (C : Addr) (cl : List (Str × Addr)) (fp : List Addr), PTs (X.blk s H scope (compEnvC scope cl C X.env) fp) ifs (tT (gx X ct) (fun _ => E0) t))
    (he : ∀ (s : Shared) (H : Hp) (C : Addr) (cl : List (Str × Addr)) (fp : List Addr), PE (X.blk s H scope (compEnvC scope cl C X.env) fp) elt (tF (gx X ct) (fun _ => E0) e)) (hy : X.N[i]? = some y := by rfl) (hyl : X.env.scope.names.lookup y = some .local := by rfl) (hs : ∀ x, foldedSetIterable iter X.env x = pure x := by intro _; rfl) :
    PS X (.Assign [.Name y py] (.ListComp elt [⟨tg, iter, ifs, 0⟩] scope pos) spos) (tS (gx X ct) E (fAsg (fLc it g t e (own.map (·.2))) (gtName i))) := PSw (ps_setLc hc hN hy hyl hsw hi ok hg ht he hs) fun D σ H ⟨η, ρ, S, rp, er, h⟩ =>
  lc_key _ _ _ ⟨η, ρ, S, rp, er, FinR.frz rp (FinR.mono (FinS.bind er h) fun v H1 ⟨η1, w, S1, f1, rp1, r1, h1⟩ => h1 η1 H1 _ (Fu.refl _ _) rp1 ((er.fu f1).set r1))⟩
end
end VI
set_option Elab.async false
set_option linter.all false
set_option maxRecDepth 100000
namespace VI
open PySem PySem.Spec PyProof.Rows L2

/-! methods of a live list -/
def liveB (w : W) (S : Store) : Bool := match w with
  | .loc l => match S[l]? with
    | some (.lst _) => true
    | _ => false
  | _ => false
theorem liveB_ok {K : PySem.W.Frag} {η : List Addr} {H : Hp} {S : Store} {w : W} {v : V} (e : liveB w S = true) (rp : Rp K η H S) (r : RepW K η H w v) : tyV K "list" v H := by
  unfold liveB at e
  split at e
  · split at e
    · rename_i l xs q
      cases r with
      | loc r =>
        obtain ⟨vs, h1, h2⟩ := rp.all _ _ _ r q
        exact .inl ⟨rfl, vs, SqL.of h1⟩
    · cases e
  · cases e
abbrev GM := W → List W → Store → O
def SimM (X : Cx) (ct : Nat → Option Addr) (g : GM) : V → List V → Hp → VK → Prop := fun x xs H Q => ∃ η S wx ws, Rp X.K η H S ∧ RepW X.K η H wx x ∧ RepWs X.K η H ws xs ∧ FinO (gx X ct) η H (g wx ws S) Q
def fMeth (g : GM) (o : FE) (a : FA) : FE := fun ρ S => (o ρ S).bind fun ov S1 => if liveB ov S1 = true then (a ρ S1).bind fun ws S2 => lift (g ov ws S2) else .bad
def fMeth0 (g : GM) (o : FE) : FE := fun ρ S => (o ρ S).bind fun ov S1 => if liveB ov S1 = true then lift (g ov [] S1) else .bad
theorem MtR.fit {X : Cx} {id : String} {r r' : V → List V → Hp → VK → Prop} (h : MtR X id r) (i : ∀ x xs H Q, r' x xs H Q → r x xs H Q) : MtR X id r' := fun pins s σ H x xs v us Q I rx ry q => h pins s σ H x xs v us Q I rx ry (i _ _ _ _ q)
section
variable {X : Cx} {ct : Nat → Option Addr} {E : EX} {o e : Expr} {es : List Expr} {name : Str} {apos cpos : Pos} {id : String} {g : GM} {fo : FE} {fa : FA}
theorem i_meth (slot : Slot "list" name id) (hty : typeOf (.builtin id) = pure (.type "method_descriptor")) (hm : MtR X id (SimM X ct g)) (ho : PE X o (tF (gx X ct) E fo)) (ha : PA X (e :: es) (tA (gx X ct) E fa))
    (hbase : attributeBase o name X.env (eval o X.env) = eval o X.env := by rfl)
    (hfew : ((backTo cpos (starEach (e :: es) X.env)).all (fun x => !x.1) && (backToKw cpos (keywordEach [] X.env)).all (fun x => x.1.isSome)
      && decide ((e :: es).length + ([] : List Keyword).length + (if ([] : List Keyword).isEmpty then 0 else 1) < 30)) = true := by rfl)
    (hline : (apos.endLine == cpos.line) = true := by rfl) (hs : starEach (e :: es) X.env = (false, eval e X.env) :: starEach es X.env := by rfl) (hplain : (backTo cpos (starEach es X.env)).any (·.1) = false := by rfl) :
    PE X (.Call (.Attribute o name apos) (e :: es) [] cpos) (tF (gx X ct) E (fMeth g fo fa)) := PEw (pe_bm PySem.F.plainAttrs_list slot hty hm ho ha hbase hfew hline hs hplain) fun σ H Q ⟨η, ρ, S, rp, er, h⟩ =>
  ⟨η, ρ, S, rp, er, FinR.mono (FinR.bind (rel := relW (gx X ct)) h) fun v H1 ⟨η1, w, S1, f1, rp1, r1, h1⟩ => by
    by_cases q : liveB w S1 = true
    · rw [if_pos q] at h1
      exact ⟨liveB_ok q rp1 r1, η1, ρ, S1, rp1, er.fu f1, FinR.mono (FinR.bind (rel := relL (gx X ct)) h1) fun vs H2 ⟨η2, ws, S2, f2, rp2, r2, h2⟩ => ⟨η2, S2, w, ws, rp2, RepW.fu f2 _ _ r1, r2, lift_ok h2⟩⟩
    · rw [if_neg q] at h1
      exact h1.elim⟩
theorem i_meth0 (slot : Slot "list" name id) (hty : typeOf (.builtin id) = pure (.type "method_descriptor")) (hm : MtR X id (SimM X ct g)) (ho : PE X o (tF (gx X ct) E fo))
    (hbase : attributeBase o name X.env (eval o X.env) = eval o X.env := by rfl) (hline : (apos.endLine == cpos.line) = true := by rfl) :
    PE X (.Call (.Attribute o name apos) [] [] cpos) (tF (gx X ct) E (fMeth0 g fo)) := PEw (pe_bm0 PySem.F.plainAttrs_list slot hty hm ho hbase hline) fun σ H Q ⟨η, ρ, S, rp, er, h⟩ =>
  ⟨η, ρ, S, rp, er, FinR.mono (FinR.bind (rel := relW (gx X ct)) h) fun v H1 ⟨η1, w, S1, f1, rp1, r1, h1⟩ => by
    by_cases q : liveB w S1 = true
    · rw [if_pos q] at h1
      exact ⟨liveB_ok q rp1 r1, η1, S1, w, [], rp1, r1, .nil, lift_ok h1⟩
    · rw [if_neg q] at h1
      exact h1.elim⟩
/-! the methods -/
def mAppend : GM := fun o ws S => match o, ws with
  | .loc l, [.d x] => match S[l]? with
    | some (.lst xs) => if xs.length < lim then some (.d .none, S.set l (.lst (xs ++ [x]))) else none
    | _ => none
  | _, _ => none
def mExtend : GM := fun o ws S => match o, ws with
  | .loc l, [u] => match S[l]?, asL u S with
    | some (.lst xs), some ys => if xs.length + ys.length ≤ lim then some (.d .none, S.set l (.lst (xs ++ ys))) else none
    | _, _ => none
  | _, _ => none
def mPop : GM := fun o ws S => match o, ws with
  | .loc l, [] => match S[l]? with
    | some (.lst xs) => match xs[xs.length - 1]? with
      | some x => some (.d x, S.set l (.lst xs.dropLast))
      | none => none
    | _ => none
  | _, _ => none
def mPopAt : GM := fun o ws S => match o, ws with
  | .loc l, [.d (.int i)] => match S[l]? with
    | some (.lst xs) => if -(2 ^ 63) ≤ i ∧ i < 2 ^ 63 then match seqIndex? i xs.length with
      | some k => match xs[k]? with
        | some x => some (.d x, S.set l (.lst (xs.eraseIdx k)))
        | none => none
      | none => none else none
    | _ => none
  | _, _ => none
def mInsert : GM := fun o ws S => match o, ws with
  | .loc l, [.d (.int i), .d x] => match S[l]? with
    | some (.lst xs) => if xs.length < lim ∧ 0 ≤ i ∧ i < 2 ^ 63 then some (.d .none, S.set l (.lst (xs.take i.toNat ++ [x] ++ xs.drop i.toNat))) else none
    | _ => none
  | _, _ => none
theorem live_at {K : PySem.W.Frag} {η : List Addr} {H : Hp} {S : Store} {l : Nat} {v : V} {xs : List PyData} (q : S[l]? = some (.lst xs)) (rp : Rp K η H S) (r : RepW K η H (.loc l) v) : ∃ a vs, v = .ref a ∧ η[l]? = some a ∧ H a = some (.lst vs) ∧ RepDs K η H xs vs := by
  cases r with
  | loc r =>
    obtain ⟨vs, h1, h2⟩ := rp.all _ _ _ r q
    exact ⟨_, vs, rfl, r, h1, h2⟩
theorem m_append : MtR X "list.append" (SimM X ct mAppend) := MtR.fit mt_append fun x xs H Q ⟨η, S, wx, ws, rp, rx, rr, h⟩ => by
  unfold mAppend at h
  split at h
  · rename_i l d
    split at h
    · rename_i ds q
      obtain ⟨a, vs, rfl, ha, h1, h2⟩ := live_at q rp rx
      obtain ⟨y, rfl, ry⟩ := repWs1 rr
      split at h
      · rename_i hl
        cases ry with
        | d ry => exact ⟨a, vs, y, rfl, rfl, h1, by rw [← h2.length, sizeLine_eq]; exact hl, write_list rp ha (h2.append (.cons ry .nil)) (.d .none) h⟩
      · exact h.elim
    · exact h.elim
  · exact h.elim
theorem m_extend : MtR X "list.extend" (SimM X ct mExtend) := MtR.fit mt_extend fun x xs H Q ⟨η, S, wx, ws, rp, rx, rr, h⟩ => by
  unfold mExtend at h
  split at h
  · rename_i l u
    split at h
    · rename_i ds es q e
      obtain ⟨a, vs, rfl, ha, h1, h2⟩ := live_at q rp rx
      obtain ⟨y, rfl, ry⟩ := repWs1 rr
      obtain ⟨b, us, rfl, h3, h4⟩ := asL_ok e rp ry
      split at h
      · rename_i hl
        exact ⟨a, b, vs, us, rfl, rfl, h1, h3, by rw [← h2.length, ← h4.length, sizeLine_eq]; exact hl, write_list rp ha (h2.append h4) (.d .none) h⟩
      · exact h.elim
    · exact h.elim
  · exact h.elim
theorem m_pop : MtR X "list.pop" (SimM X ct mPop) := MtR.fit mt_pop fun x xs H Q ⟨η, S, wx, ws, rp, rx, rr, h⟩ => by
  unfold mPop at h
  split at h
  · rename_i l
    split at h
    · rename_i ds q
      obtain ⟨a, vs, rfl, ha, h1, h2⟩ := live_at q rp rx
      cases rr
      split at h
      · rename_i d e
        obtain ⟨y, e1, ry⟩ := h2.get e
        rw [h2.length] at e1
        exact ⟨a, vs, y, rfl, rfl, h1, e1, write_list rp ha h2.dropLast (.d ry) h⟩
      · exact h.elim
    · exact h.elim
  · exact h.elim
theorem m_popAt : MtR X "list.pop" (SimM X ct mPopAt) := MtR.fit mt_popAt fun x xs H Q ⟨η, S, wx, ws, rp, rx, rr, h⟩ => by
  unfold mPopAt at h
  split at h
  · rename_i l i
    split at h
    · rename_i ds q
      obtain ⟨a, vs, rfl, ha, h1, h2⟩ := live_at q rp rx
      obtain ⟨y, rfl, ry⟩ := repWs1 rr
      obtain rfl := intW ry
      split at h
      · rename_i hi
        split at h
        · rename_i k ek
          split at h
          · rename_i d e
            obtain ⟨z, e1, rz⟩ := h2.get e
            exact ⟨a, vs, i, k, z, rfl, rfl, h1, hi.1, hi.2, by rw [← h2.length]; exact ek, e1, write_list rp ha (h2.eraseIdx k) (.d rz) h⟩
          · exact h.elim
        · exact h.elim
      · exact h.elim
    · exact h.elim
  · exact h.elim
theorem m_insert : MtR X "list.insert" (SimM X ct mInsert) := MtR.fit mt_insert fun x xs H Q ⟨η, S, wx, ws, rp, rx, rr, h⟩ => by
  unfold mInsert at h
  split at h
  · rename_i l i d
    split at h
    · rename_i ds q
      obtain ⟨a, vs, rfl, ha, h1, h2⟩ := live_at q rp rx
      obtain ⟨y, y2, rfl, ry, ry2⟩ := repWs2 rr
      obtain rfl := intW ry
      split at h
      · rename_i hi
        cases ry2 with
        | d ry2 => exact ⟨a, vs, i, y2, rfl, rfl, h1, by rw [← h2.length, sizeLine_eq]; exact hi.1, hi.2.1, hi.2.2, write_list rp ha (((h2.take _).append (.cons ry2 .nil)).append (h2.drop _)) (.d .none) h⟩
      · exact h.elim
    · exact h.elim
  · exact h.elim
theorem i_append {n : Nat} (ho : PE X o (tF (gx X ct) E fo)) (ha : PA X [e] (tA (gx X ct) E fa))
    (hbase : attributeBase o "append" X.env (eval o X.env) = eval o X.env := by rfl)
    (hfew : ((backTo cpos (starEach [e] X.env)).all (fun x => !x.1) && (backToKw cpos (keywordEach [] X.env)).all (fun x => x.1.isSome)
      && decide (([e] : List Expr).length + ([] : List Keyword).length + (if ([] : List Keyword).isEmpty then 0 else 1) < 30)) = true := by rfl)
    (hline : (apos.endLine == cpos.line) = true := by rfl) (hs : starEach [e] X.env = (false, eval e X.env) :: starEach [] X.env := by rfl) (hplain : (backTo cpos (starEach [] X.env)).any (·.1) = false := by rfl) :
    PE X (.Call (.Attribute o "append" apos) [e] [] cpos) (tF (gx X ct) E (fMeth mAppend fo fa)) := i_meth PySem.F.slot_list_append PySem.F.type_list_append m_append ho ha hbase hfew hline hs hplain
/-! all back to front -/
def gRev (w : W) (S : Store) : O := match asLW w S with
  | some ws => (datas ws).map fun ds => (.d (.list ds.reverse), S)
  | none => none
theorem i_rev {k : Nat} {p1 p2 p3 pos : Pos} (he : PE X e (tF (gx X ct) E fo)) : PE X (.Subscript e (.Slice none none (some (.UnaryOp .USub (.Constant (.int 1) k p1) p2)) p3) pos) (tF (gx X ct) E (f1 gRev fo)) :=
  PEw (pe_revL he) (get1 (r := fun x H1 Q => ∃ a xs, x = .ref a ∧ SqL X.K H1 a xs ∧ ∀ p, H1 p = none → Q (.ref p) (upd H1 p (.lst xs.reverse))) fun x H Q ⟨η, S, w, rp, r, h⟩ => by
    unfold gRev at h
    split at h
    · rename_i ws e
      obtain ⟨a, vs, rfl, h1, h2⟩ := asLW_ok e rp r
      cases q : datas ws with
      | none => rw [q] at h; exact h.elim
      | some ds =>
        rw [q] at h
        exact ⟨a, vs, rfl, h1, new_list rp (datas_ok q h2).reverse h⟩
    · exact h.elim)
end
end VI
set_option Elab.async false
set_option linter.all false
set_option maxRecDepth 100000
namespace VI
open PySem PySem.Spec PyProof.Rows L2

/-! a def by its body -/
/-- what a run of a body comes to -/
def toR : RF → R W
  | .next _ S => .ok (.d .none) S
  | .ret w S => .ok w S
  | _ => .bad
def startR (n : Nat) (ws : List W) : Rho := ws.map some ++ List.replicate (n - ws.length) none
def runB (n : Nat) (b : FS) (ws : List W) (S : Store) : R W := toR (b (startR n ws) S)
theorem start_rep {K : PySem.W.Frag} {η : List Addr} {H : Hp} {N : List Str} {ws : List W} {vs : List V} (r : RepWs K η H ws vs) : ERep K η H (startR N.length ws) (L2.start N vs) := by
  unfold startR L2.start
  refine ⟨by simp [r.length], fun i w h => ?_⟩
  by_cases hi : i < ws.length
  · rw [List.getElem?_append_left (by rw [List.length_map]; exact hi), List.getElem?_map] at h
    cases q : ws[i]? with
    | none => rw [q] at h; cases h
    | some u =>
      rw [q] at h
      have z : u = w := Option.some.inj (Option.some.inj h)
      subst z
      obtain ⟨v, e, rv⟩ := r.get q
      refine ⟨v, ?_, rv⟩
      rw [List.getElem?_append_left (by rw [List.length_map, ← r.length]; exact hi), List.getElem?_map, e]
      rfl
  · rw [List.getElem?_append_right (by rw [List.length_map]; omega), List.getElem?_replicate] at h
    split at h <;> cases h
abbrev NX : EX := fun _ => E0
section
variable {P : Program} {w : World} {K : PySem.W.Frag} {mg : Str → Option Value} {base : Heap} {ct : Nat → Option Addr}
/-- the context in which a body is read: none of what is raised leaves it -/
abbrev bodyX (P : Program) (w : World) (K : PySem.W.Frag) (mg : Str → Option Value) (base : Heap) (N : List Str) (qual : Str) (scope : Scope) (f : Addr) (cd : Value) (A : Around) (outer : List Env) (s : Shared) (H : Hp) (E : XK) : Cx :=
  (cxOf CX0 P w K mg base N qual scope f cd A outer s H E).nox
theorem fnG_of {k : Nat} {f : Addr} {name qual : Str} {pr : Arguments} {body : List Stmt} {sc : Scope} {dV kV doc pm cdv ctv oc : Value} {an od : Option Addr} {sl : Array (Option Value)} {N ps : List Str} {g : List W → Store → R W}
    (lk : K.lookup f = some ⟨oc, od, .func (PySem.W.fnOf name qual pr body sc dV kV doc pm an cdv ctv), sl⟩) (hcd : PySem.W.codeIn K cdv qual = true) (hS : FnScope N ps sc)
    (hb : ∀ (A : Around) (outer : List Env) (s : Shared) (H : Hp) (E : XK), Room k (A.deeper (envOfC qual sc s.heap.objs.size f cdv)) → A.guards = some [] → ∃ b : FS, (∀ ws S, ws.length = ps.length → g ws S = runB N.length b ws S) ∧
      PSs (bodyX P w K mg base N qual sc f cdv A outer s H E) body (tS ⟨K, ct⟩ NX b)) :
    FnG P w K mg base CX0 (k + 1) f (PySem.W.fnOf name qual pr body sc dV kV doc pm an cdv ctv) ps (spG ⟨K, ct⟩ ps.length g) where
  len := fun vs H Q E h => h.1
  run := by
    intro A outer s H args us vs Q E room gd env bnd rel ⟨hlen, η, S, ws, rp, rr, fin⟩
    have hin : K.In s.heap := env.mod.kin.keeps fun c o z => (env.bs c o z).1
    have nolim : s.heap.NoLimit := env.mod.nolimit.keeps fun c o z => (env.bs c o z).1
    have kinds : ∀ p ∈ ps.zip us, sc.names.lookup p.1 = some .local ∨ (sc.names.lookup p.1 = some .cell ∧ ((cellsFrom (s.heap.objs.size + 1) sc.names []).lookup p.1).isSome = true) := by
      rintro ⟨m, u⟩ hm
      rcases hS.par m (List.of_mem_zip hm).1 with z | z
      · exact Or.inl z
      · exact Or.inr ⟨z, PySem.W.cellsFrom_some _ _ _ (Or.inl z)⟩
    refine codeAny_call_function room.depth (hin _ _ lk) rfl hS.co hS.gen rfl (PySem.W.codeRec_of hin hcd) (bnd _ _ _ _ ?_)
    refine wpAny_newFunctionEnv_cells hS.kind kinds fun en hen t1 tx => ?_
    subst hen
    refine ⟨nolim.keeps tx.toInCall.keep, codeAny_func ?_⟩
    obtain ⟨b, eqb, hbody⟩ := hb A outer s H E (room.deeper _) gd
    have inv0 := inv_start (CX := CX0) (E := E) hS room.hd env hlen rel tx
    have wl : ws.length = ps.length := by rw [rr.length]; exact hlen
    rw [eqb ws S wl] at fin
    have pre : tS ⟨K, ct⟩ NX b { nx := fun _ H' => Q .non H', rt := Q } (L2.start N vs) H := by
      refine ⟨η, startR N.length ws, S, rp, start_rep rr, ?_⟩
      unfold runB at fin
      cases eb : b (startR N.length ws) S with
      | next ρ2 S2 => rw [eb] at fin; exact fun η2 H2 σ2 f2 rp2 er2 => fin η2 H2 .non f2 rp2 (.d .none)
      | ret u S2 => rw [eb] at fin; exact fin
      | brk ρ2 S2 => rw [eb] at fin; exact fin.elim
      | cnt ρ2 S2 => rw [eb] at fin; exact fin.elim
      | exc c fs ρ2 S2 => rw [eb] at fin; exact fin.elim
      | bad => rw [eb] at fin; exact fin.elim
    refine wpAny_mono ((PSs.nox hbody).run [] t1 (L2.start N vs) H _ inv0 pre) (fun fl t2 hf => ?_) fun e t2 hf => hf
    cases fl with
    | ret u =>
      obtain ⟨v, σ2, H2, J, rv, q⟩ := hf
      exact ⟨v, H2, J.os, J.bare, J.base, J.hok, rv, q⟩
    | next =>
      obtain ⟨σ2, H2, J, q⟩ := hf
      exact ⟨V.non, H2, J.os, J.bare, J.base, J.hok, rfl, q⟩
    | brk => exact False.elim (let ⟨_, _, _, q⟩ := hf; q)
    | cont => exact False.elim (let ⟨_, _, _, q⟩ := hf; q)
theorem FunD.okG {x qual : Str} {pr : Arguments} {body : List Stmt} {sc : Scope} {dvs : List V} {kws : List (Str × V)} {f : Addr} {fd : FuncData} {N ps : List Str} {k : Nat} {g : List W → Store → R W} (F : FunD K x qual pr body sc dvs kws f fd) (hS : FnScope N ps sc)
    (hb : ∀ (cdv : Value) (A : Around) (outer : List Env) (s : Shared) (H : Hp) (E : XK), Room k (A.deeper (envOfC qual sc s.heap.objs.size f cdv)) → A.guards = some [] → ∃ b : FS, (∀ ws S, ws.length = ps.length → g ws S = runB N.length b ws S) ∧
      PSs (bodyX P w K mg base N qual sc f cdv A outer s H E) body (tS ⟨K, ct⟩ NX b)) : FnG P w K mg base CX0 (k + 1) f fd ps (spG ⟨K, ct⟩ ps.length g) := by
  obtain ⟨oc, od, dV, kV, doc, pm, an, cdv, cv, sl, rfl, lk, hcd, _, _⟩ := F.ex
  exact fnG_of lk hcd hS fun A outer s H E r gd => hb cdv A outer s H E r gd
/-- no room: nothing is promised -/
theorem fnG_zero {k : Nat} {f : Addr} {fd : FuncData} {ps : List Str} {g : List W → Store → R W} (h : ∀ ws S, g ws S = .bad) : FnG P w K mg base CX0 k f fd ps (spG ⟨K, ct⟩ ps.length g) where
  len := fun vs H Q E h => h.1
  run := fun A outer s H args us vs Q E _ _ _ _ _ ⟨_, η, S, ws, rp, rr, fin⟩ => by
    rw [h] at fin
    exact fin.elim
end
end VI
set_option Elab.async false
set_option linter.all false
set_option maxRecDepth 100000
namespace VI
open PySem PySem.Spec PyProof.Rows L2

/-! the end: the law called by the row -/
/-- the row's question of the run -/
abbrev Asked (s1 : Shared) : Result → Shared → Prop := fun r t => r = .ok (.ret (.bool true)) ∧ OldK s1.heap t.heap ∧ t.os = s1.os ∧ AllBare t.gens
def scriptW (ns : List Int) : W := .fro (ns.map PyData.int)
theorem ints_rep {K : PySem.W.Frag} {η : List Addr} {H : Hp} : ∀ ns : List Int, RepDs K η H (ns.map PyData.int) (ns.map V.int)
  | [] => .nil
  | n :: ns => .cons (.int n) (ints_rep ns)
theorem script_rep {K : PySem.W.Frag} {H : Hp} {a : Addr} {ns : List Int} (hO : Only H) (hS : SqL K H a (ns.map V.int)) : RepW K [] H (scriptW ns) (.ref a) := by
  refine .fro ?_ (ints_rep ns)
  rcases hS with (z | ⟨o, z⟩) | z
  · rcases hO a with y | ⟨o, xs, y⟩
    · rw [y] at z; cases z
    · rw [y] at z; cases z
  · exact .inl ⟨o, z⟩
  · exact .inr z
section
variable {P : Program} {w : World} {K : PySem.W.Frag} {mg mb : Str → Option Value} {k : Nat} {fa a : Addr} {fd : FuncData} {x : Str} {ct : Nat → Option Addr} {g : List W → Store → R W} {s1 : Shared} {vs : List Value} {ns : List Int}
/-- from a heap in which nothing but the script is told of -/
theorem ask_from (KX : K.In s1.heap) (nsM : s1.heap.Ns mainGlobals mg) (nsB : s1.heap.Ns builtinsNs mb) (hbb : ∀ x : Str, x ≠ "__name__" → mb x = bootBuiltins x) (lim : s1.heap.NoLimit) (hg : s1.gens = #[])
    (ha : s1.heap.get? a = some { cls := .type "list", data := .seq vs.toArray }) (hr : Room k callerA)
    (F : ∀ base : Heap, K.In base → base.Ns mainGlobals mg → FnG P w K mg base CX0 k fa fd [x] (spG ⟨K, ct⟩ 1 g)) (bnd : ∀ (s : Shared) (u : Value), BindsTo s fd ⟨[u], []⟩ [(x, u)])
    (good : ∃ S', g [scriptW ns] [] = .ok (.d (.bool true)) S') (H : Hp) (hO : Only H) (hS : SqL K H a (ns.map V.int)) (hok : HOk P w H s1.heap) (only : ∀ c, H c ≠ none → c = a) (apart : H a ≠ none → K.lookup a = none) :
    codeAny (model P w) callerA (.call (.ref fa) ⟨[.ref a], []⟩) (Asked s1) s1 := by
  have seen : ∀ {c : Addr} {o : Obj}, s1.heap.get? c = some o → H c = none → (hidT s1.heap H).get? c = some o := fun z n => hidT_get z n
  have free : ∀ {c : Addr} {o : Obj}, s1.heap.get? c = some o → (∀ us n, o.data ≠ .seq us n) → H c = none := fun {c o} z nd => by
    cases q : H c with
    | none => rfl
    | some u =>
      obtain rfl : c = a := only c (by rw [q]; intro y; cases y)
      rw [ha] at z
      cases z
      exact (nd _ _ rfl).elim
  have spaces : ∀ {c : Addr} {m : Str → Option Value}, s1.heap.Ns c m → (hidT s1.heap H).Ns c m := fun {c m} ⟨o, es, ep, z, dz, rz⟩ => ⟨o, es, ep, seen z (free z fun us n y => by rw [dz] at y; cases y), dz, rz⟩
  have inK : K.In (hidT s1.heap H) := fun c o z => seen (KX c o z) (by
    cases q : H c with
    | none => rfl
    | some u =>
      obtain rfl : c = a := only c (by rw [q]; intro y; cases y)
      rw [apart (by rw [q]; intro y; cases y)] at z
      cases z)
  have md : L2.Mod K mg (hidT s1.heap H) := ⟨inK, spaces nsM, ⟨mb, spaces nsB, hbb⟩, let ⟨mc, z1, z2⟩ := lim; ⟨mc, spaces z1, z2⟩⟩
  have env : Env0 P w K mg (hidT s1.heap H) callerA [] s1 H := ⟨rfl, md, fun c o z => of_hidT z, Nat.le_of_eq (hidT_size _ _), trivial, fun c hc => (by cases hc), hok, .of_eq hg⟩
  obtain ⟨S', eg⟩ := good
  have rp : Rp K [] H [] := ⟨rfl, List.nodup_nil, fun l c o z => by simp at z, fun l o z => by simp at z⟩
  have pre : spG ⟨K, ct⟩ 1 g [.ref a] H (fun v _ => v = .bl true) E0 := ⟨rfl, [], [], [scriptW ns], rp, .cons (script_rep hO hS) .nil, by
    rw [eg]
    intro η2 H2 v f2 rp2 r2
    cases r2 with
    | d r2 => cases r2; rfl⟩
  refine codeAny_mono ((F _ inK (spaces nsM)).run callerA [] s1 H ⟨[.ref a], []⟩ [.ref a] [.ref a] _ _ hr rfl env (bnd s1 (.ref a)) (.cons rfl .nil) pre) fun r t h => ?_
  cases r with
  | error e => exact False.elim h
  | ok fl =>
    cases fl with
    | next => exact False.elim h
    | brk => exact False.elim h
    | cont => exact False.elim h
    | ret u =>
      obtain ⟨v, H2, os, bare, un, hok2, rel, q⟩ := h
      have qv : v = .bl true := q
      subst qv
      obtain rfl : u = Value.bool true := rel
      refine ⟨rfl, OldK.of_keep fun c o z => ?_, os, bare⟩
      cases q : H c with
      | none => exact un.keep c o z q (by intro y; cases y) (by simp)
      | some u =>
        rcases hO c with y | ⟨ob, xs, y⟩
        · rw [q] at y; cases y
        · obtain ⟨e1, _⟩ := hok c _ y
          obtain ⟨e2, _⟩ := hok2 c _ (un.frzs c ob _ y)
          rw [z] at e1
          cases e1
          exact e2
theorem ask (KX : K.In s1.heap) (nsM : s1.heap.Ns mainGlobals mg) (nsB : s1.heap.Ns builtinsNs mb) (hbb : ∀ x : Str, x ≠ "__name__" → mb x = bootBuiltins x) (lim : s1.heap.NoLimit) (hg : s1.gens = #[])
    (ha : s1.heap.get? a = some { cls := .type "list", data := .seq vs.toArray }) (hi : IntsAre vs ns) (hl : ns.length ≤ sizeLine) (hr : Room k callerA)
    (F : ∀ base : Heap, K.In base → base.Ns mainGlobals mg → FnG P w K mg base CX0 k fa fd [x] (spG ⟨K, ct⟩ 1 g)) (bnd : ∀ (s : Shared) (u : Value), BindsTo s fd ⟨[u], []⟩ [(x, u)])
    (good : ∃ S', g [scriptW ns] [] = .ok (.d (.bool true)) S') : codeAny (model P w) callerA (.call (.ref fa) ⟨[.ref a], []⟩) (Asked s1) s1 := by
  have rv := vals_ints hi
  have run := fun H => ask_from KX nsM nsB hbb lim hg ha hr F bnd good H
  cases hk : K.lookup a with
  | some o =>
    have z := KX a o hk
    rw [ha] at z
    cases z
    refine run (fun _ => none) (fun _ => Or.inl rfl) (Or.inr ⟨_, vs.toArray, _, hk, rfl, rfl, rfl, ?_, ?_⟩) (fun c u y => nomatch y) (fun c y => absurd rfl y) fun y => absurd rfl y
    · rw [List.size_toArray, hi.length]; exact hl
    · simpa using rv
  | none =>
    have at_a : ∀ c, (fun c => if c = a then some (HO.frz { cls := .type "list", data := .seq vs.toArray } (.lst (ns.map V.int))) else none) c ≠ none → c = a := fun c y => by
      by_cases h : c = a
      · exact h
      · exact absurd (if_neg h) y
    refine run (fun c => if c = a then some (.frz { cls := .type "list", data := .seq vs.toArray } (.lst (ns.map V.int))) else none) (fun c => ?_) (Or.inl (Or.inr ⟨_, if_pos rfl⟩)) (fun c u y => ?_) at_a fun _ => hk
    · by_cases h : c = a
      · exact Or.inr ⟨_, _, if_pos h⟩
      · exact Or.inl (if_neg h)
    · obtain rfl : c = a := at_a c (by rw [y]; intro n; cases n)
      have y2 := (if_pos rfl).symm.trans y
      cases y2
      exact ⟨ha, by rw [List.length_map]; exact hl, vs, _, rv, ha⟩
/-- what the row leaves, from the law's function -/
theorem walk_G {l : PySem.W.OpenLaw} {n : Nat} {q : Program} {loose : List Str} {XP : (Str → Option Value) → Heap → Prop} {YP : World → Heap → Prop} {d : DefRec}
    (hn : l.most = some n) (hn2 : n ≤ sizeLine) (hdf : d.params.defaults = []) (hr : Room k callerA)
    (F : ∀ (w : World) (mg : Str → Option Value) (fa : Addr) (h : Heap), YP w h → h.Ns mainGlobals mg → mg d.name = some (.ref fa) →
      ∃ (K : PySem.W.Frag) (fd : FuncData), K.In h ∧ (∀ (s : Shared) (u : Value), BindsTo s fd ⟨[u], []⟩ [(x, u)]) ∧
        ∀ base : Heap, K.In base → base.Ns mainGlobals mg → FnG l.prog w K mg base CX0 k fa fd [x] (spG ⟨K, ct⟩ 1 g))
    (good : ∀ ns : List Int, ns.length ≤ n → (∀ z ∈ ns, Builtin.Int.intBits z ≤ 1048576) → ∃ S', g [scriptW ns] [] = .ok (.d (.bool true)) S') :
    PySem.W.WalkO q loose XP YP l.row.toRowW d [] (fun f vs => PySem.call f vs) :=
  Att.attach_callB hn hdf fun w s₀ s1 mg mb fa o pm cd doc a vs ns G Y ho hd hcd hmg hobj hints hlen hbits hg => by
    obtain ⟨K, fd, KX, hb, hF⟩ := F w mg fa _ Y G.T.g hmg
    exact ask KX G.T.g G.T.b G.T.builtins G.T.nolimit hg hobj hints (Nat.le_trans hlen hn2) hr hF hb (good ns hlen hbits)
end
end VI
set_option Elab.async false
set_option linter.all false
set_option maxRecDepth 100000
namespace VI
open PySem PySem.Spec PyProof.Rows L2

/-! minus -/
def gNeg (w : W) (S : Store) : O := match w with
  | .d (.int i) => some (.d (.int (-i)), S)
  | _ => none
section
variable {X : Cx} {ct : Nat → Option Addr} {E : EX}
theorem i_neg {e : Expr} {pos : Pos} {f : FE} (he : PE X e (tF (gx X ct) E f)) : PE X (.UnaryOp .USub e pos) (tF (gx X ct) E (f1 gNeg f)) :=
  PEw (pe_un un_neg he) (get1 (r := rU fun i => .int (-i)) fun x H Q ⟨η, S, w, rp, r, h⟩ => by
    unfold gNeg at h
    split at h
    · obtain rfl := intW r
      exact ⟨_, rfl, same_val rp (.d (.int _)) h⟩
    · exact h.elim)
/-! o[i] op= e, a live list, i not below 0 -/
theorem get_live : PGet X fun o i H Q => ∃ p xs k v, o = .ref p ∧ i = .int k ∧ SqL X.K H p xs ∧ 0 ≤ k ∧ k < 2 ^ 63 ∧ xs[k.toNat]? = some v ∧ Q v H := by
  intro pins s σ H o i ov iv Q I ro ri ⟨p, xs, k, v, ho, hi, hq, h0, h1, hv, q⟩
  subst ho
  subst hi
  cases ro
  obtain ⟨t, rfl⟩ := ri
  obtain ⟨its, r, pl, hz⟩ := I.list hq
  obtain ⟨u, hu, ru⟩ := r.get hv
  exact wpAny_getItem_list pl.isList h0 h1 (by simpa using hu) ⟨v, H, I, ru, q⟩
def gAt (o i : W) (S : Store) : Option PyData := match o, i with
  | .loc l, .d (.int k) => match S[l]? with
    | some (.lst xs) => if 0 ≤ k ∧ k < 2 ^ 63 then xs[k.toNat]? else none
    | _ => none
  | _, _ => none
def fAugAt (fo fi : FE) (g : W → W → Store → O) (fe : FE) : FS := fun ρ S => toS ρ (fo ρ S) fun ov S1 => toS ρ (fi ρ S1) fun iw S2 => match gAt ov iw S2 with
  | some old => toS ρ (fe ρ S2) fun ev S3 => match g (.d old) ev S3 with
    | some (z, S4) => match gSet ov iw z S4 with
      | some S5 => .next ρ S5
      | none => .bad
    | none => .bad
  | none => .bad
theorem gAt_ok {K : PySem.W.Frag} {η : List Addr} {H : Hp} {S : Store} {wo wi : W} {o i : V} {d : PyData} (e : gAt wo wi S = some d) (rp : Rp K η H S) (ro : RepW K η H wo o) (ri : RepW K η H wi i) :
    ∃ p xs k v, o = .ref p ∧ i = .int k ∧ SqL K H p xs ∧ 0 ≤ k ∧ k < 2 ^ 63 ∧ xs[k.toNat]? = some v ∧ RepD K η H d v := by
  unfold gAt at e
  split at e
  · rename_i l k
    obtain rfl := intW ri
    split at e
    · rename_i ds q
      obtain ⟨a, vs, rfl, ha, h1, h2⟩ := live_at q rp ro
      split at e
      · rename_i hk
        obtain ⟨v, ev, rv⟩ := h2.get e
        exact ⟨a, vs, k, v, rfl, rfl, SqL.of h1, hk.1, hk.2, ev, rv⟩
      · cases e
    · cases e
  · cases e
theorem s_augAt {o i e : Expr} {op : Operator} {tpos pos : Pos} {fo fi fe : FE} {g : W → W → Store → O} (hop : OpR X (inplaceOp op) (Sim2 X ct g)) (ho : PE X o (tF (gx X ct) E fo)) (hi : PE X i (tF (gx X ct) E fi)) (he : PE X e (tF (gx X ct) E fe))
    (ha : ∀ ov iv new, augStore i ov iv new = (do holding [new, ov, iv] (setItem ov iv new); release [new, ov, iv] []; pure .next) := by intros; rfl) : PS X (.AugAssign (.Subscript o i tpos) op e pos) (tS (gx X ct) E (fAugAt fo fi g fe)) :=
  PSw (ps_augS ho hi get_live he (fun pins s σ H a b v u Q I ra rb q => hop pins s σ H a b v u Q I ra rb q) set_list ha) fun D σ H ⟨η, ρ, S, rp, er, h⟩ =>
  ⟨η, ρ, S, rp, er, FinR.mono (FinS.bind er h) fun v1 H1 ⟨η1, w1, S1, f1, rp1, r1, h1⟩ =>
    ⟨η1, ρ, S1, rp1, er.fu f1, FinR.mono (FinS.bind (er.fu f1) h1) fun v2 H2 ⟨η2, w2, S2, f2, rp2, r2, h2⟩ => by
      split at h2
      · rename_i old eo
        obtain ⟨p, xs, k, v, ev1, ev2, hq, k0, k1, hv, rv⟩ := gAt_ok eo rp2 (RepW.fu f2 _ _ r1) r2
        refine ⟨p, xs, k, v, ev1, ev2, hq, k0, k1, hv, η2, ρ, S2, rp2, (er.fu f1).fu f2, FinR.mono (FinS.bind ((er.fu f1).fu f2) h2) fun v3 H3 ⟨η3, w3, S3, f3, rp3, r3, h3⟩ => ?_⟩
        refine ⟨η3, S3, .d old, w3, rp3, .d (RepD.fu f3 _ _ rv), r3, ?_⟩
        cases eg : g (.d old) w3 S3 with
        | none => rw [eg] at h3; exact h3.elim
        | some zz =>
          obtain ⟨z, S4⟩ := zz
          rw [eg] at h3
          dsimp only at h3
          intro η4 H4 v4 f4 rp4 r4
          cases es : gSet w1 w2 z S4 with
          | none => rw [es] at h3; exact h3.elim
          | some S5 =>
            rw [es] at h3
            exact set_key es rp4 (RepW.fu ((f2.trans f3).trans f4) _ _ r1) (RepW.fu (f3.trans f4) _ _ r2) r4 fun η5 H5 f5 rp5 => h3 η5 H5 σ (f4.trans f5) rp5 (((((er.fu f1).fu f2).fu f3).fu f4).fu f5)
      · exact h2.elim⟩⟩
end
/-! all back to front, a tuple -/
theorem places_down (n : Nat) : Builtin.Slice.slicePlaces ((n : Int) - 1) (-1) (-1) = n := by
  unfold Builtin.Slice.slicePlaces
  rw [if_neg (by omega)]
  by_cases h : (n : Int) - 1 > -1
  · rw [if_pos h]
    have e : (-(-1 : Int)) = 1 := rfl
    rw [e, Int.ediv_one]
    omega
  · rw [if_neg h]
    omega
theorem pick_down (xs : Array Value) : ((List.range xs.size).filterMap fun (m : Nat) => xs[(((xs.size : Int) - 1) + (m : Int) * -1).toNat]?) = xs.toList.reverse := by
  have key : ∀ k, k ≤ xs.size → ((List.range k).filterMap fun (m : Nat) => xs[(((xs.size : Int) - 1) + (m : Int) * -1).toNat]?) = xs.toList.reverse.take k := fun k => by
    induction k with
    | zero => intro _; rfl
    | succ k ih =>
      intro hk
      have e1 : (((xs.size : Int) - 1) + (k : Int) * -1).toNat = xs.size - 1 - k := by omega
      have lt : xs.size - 1 - k < xs.size := by omega
      rw [List.range_succ, List.filterMap_append, ih (by omega), List.take_add_one]
      congr 1
      rw [List.getElem?_reverse (by rw [Array.length_toList]; omega), Array.length_toList]
      simp only [List.filterMap_cons, List.filterMap_nil]
      rw [e1, Array.getElem?_toList, Array.getElem?_eq_getElem lt]
      rfl
  rw [key xs.size (Nat.le_refl _), List.take_of_length_le (by rw [List.length_reverse, Array.length_toList]; exact Nat.le_refl _)]
section
variable {P : Program} {w : World} {A : Around} {E : Value → Shared → Prop} {s : Shared}
theorem applied_down {sl : Addr} {vs : Value} {n : Nat} {Q : Int × Int × Nat → Shared → Prop} (hs : s.heap.IsSliceOf sl .none .none vs) (ps : IsPart vs (some (-1))) (h : Q ((n : Int) - 1, -1, n) s) :
    wpAny (model P w) A (Builtin.Slice.sliceApplied (.ref sl) (pure (n : Int))) Q E s := by
  obtain ⟨os, g, c, d⟩ := id hs
  unfold Builtin.Slice.sliceApplied Builtin.Slice.sliceFields
  refine wpAny_bind (wpAny_bind (wpAny_field g d (x := .none) rfl (wpAny_bind (wpAny_field g d (x := .none) rfl (wpAny_bind (wpAny_field g d (x := vs) rfl (wpAny_pure ?_)))))))
  refine wpAny_bind (HT.slicePart_ ps ?_)
  show wpAny _ _ (if ((-1 : Int) == 0) = true then _ else _) _ _ s
  rw [if_neg (by decide)]
  refine wpAny_bind (PyProof.Rows.slicePart_none (wpAny_bind (PyProof.Rows.slicePart_none (wpAny_bind (wpAny_pure ?_)))))
  have e : Builtin.Slice.sliceAdjust none none (-1) (n : Int) = ((n : Int) - 1, -1) := by
    unfold Builtin.Slice.sliceAdjust
    rfl
  show wpAny _ _ (match Builtin.Slice.sliceAdjust none none (-1) (n : Int) with | (lo, hi) => pure (lo, (-1 : Int), Builtin.Slice.slicePlaces lo hi (-1))) _ _ s
  rw [e]
  show wpAny _ _ (pure ((n : Int) - 1, (-1 : Int), Builtin.Slice.slicePlaces ((n : Int) - 1) (-1) (-1))) _ _ s
  rw [places_down]
  exact wpAny_pure h
theorem item_tupDown {t sl : Addr} {items : Array Value} {vs : Value} {Q : Value → Shared → Prop} (ht : IsTup s.heap t items) (hs : s.heap.IsSliceOf sl .none .none vs) (ps : IsPart vs (some (-1)))
    (h : Q (.ref s.heap.objs.size) { s with heap := s.heap.push { cls := .type "tuple", data := .seq items.toList.reverse.toArray } }) (hz : items.size ≤ sizeLine) : wpAny (model P w) A (getItem (.ref t) (.ref sl)) Q E s := by
  have fits : sizeOk (.seq items.toList.reverse.toArray) := by
    show items.toList.reverse.toArray.size ≤ sizeLine
    rw [List.size_toArray, List.length_reverse, Array.length_toList]
    exact hz
  have isS : s.TypeIs (.ref sl) "slice" := let ⟨os, g, c, _⟩ := id hs; ⟨os, g, c⟩
  unfold getItem
  try with_reducible refine wpAny_holding ?_
  first | refine wpAny_bind (wpAny_pure ?_) | skip
  refine wpAny_bind (wpAny_sequenceKey ht.typeIs (by decide) ?_)
  refine wpAny_bind (wpAny_callSpecial?_slot (name := Str.ofString "__getitem__") ht.typeIs PyProof.Rows.slot_tuple_getitem (wpAny_call_entry PyProof.Rows.slot_tuple_getitem ht.typeIs PyProof.Rows.entry_tuple_getitem ?_ (PyProof.Rows.args_tuple_getitem _ _)))
  show wpAny _ _ (Builtin.Tuple.tupleItemsOf (.ref t) >>= _) _ _ s
  refine wpAny_bind (PyProof.Rows.tupleItemsOf_ ht (wpAny_bind (wpAny_typeOf isS ?_)))
  rw [if_pos (by decide)]
  refine wpAny_bind (applied_down hs ps ?_)
  have no : ¬ ((((items.size : Int) - 1) == 0 && (-1 : Int) == 1 && items.size == items.size) = true) := by
    intro q
    rw [Bool.and_eq_true, Bool.and_eq_true] at q
    exact absurd q.1.2 (by decide)
  show wpAny _ _ (if ((((items.size : Int) - 1) == 0 && (-1 : Int) == 1 && items.size == items.size) = true) then _ else _) _ _ s
  rw [if_neg no, pick_down]
  first
    | exact wpAny_bind (m := Builtin.Tuple.tupleExact _) (wpAny_newObj_type (wpAny_pure ⟨_, rfl, wpAny_pure h⟩) fits)
    | exact wpAny_bind (m := Builtin.Tuple.tupleExact _) (wpAny_newObj_type (wpAny_bind (wpAny_pure (wpAny_pure ⟨_, rfl, wpAny_pure h⟩))) fits)
    | exact wpAny_bind (wpAny_bind (m := Builtin.Tuple.tupleExact _) (wpAny_newObj_type (wpAny_pure (wpAny_pure ⟨_, rfl, wpAny_pure h⟩)) fits))
    | exact wpAny_bind (wpAny_bind (m := Builtin.Tuple.tupleExact _) (wpAny_newObj_type (wpAny_pure ⟨_, rfl, wpAny_pure h⟩) fits))
end
section
variable {X : Cx} {ct : Nat → Option Addr} {E : EX}
def tRevB (K : PySem.W.Frag) (te : TE) : TE := fun σ H Q => te σ H fun x H1 => (∃ a xs, x = .ref a ∧ SqL K H1 a xs ∧ ∀ p, H1 p = none → Q (.ref p) (upd H1 p (.lst xs.reverse))) ∨ ∃ a xs, x = .ref a ∧ SqT K H1 a xs ∧ ∀ p, H1 p = none → Q (.ref p) (upd H1 p (.tup xs.reverse))
theorem pe_revB {e : Expr} {te : TE} {k : Nat} {p1 p2 p3 pos : Pos} (he : PE X e te) : PE X (.Subscript e (.Slice none none (some (.UnaryOp .USub (.Constant (.int 1) k p1) p2)) p3) pos) (tRevB X.K te) := ⟨fun pins s σ H Q I h => by
  refine Subscript_ (thn (he.run pins s σ H _ I h) fun v s1 ⟨x, H1, I1, r1, q1⟩ => ?_)
  have step : PO X (some (.UnaryOp .USub (.Constant (.int 1) k p1) p2)) (tPart (tUn (rU fun i => .int (-i)) (tC (.int 1)))) := po_some (pe_un un_neg pe_int)
  refine wpAny_Slice (thn (po_none.run pins s1 σ H1 (fun o H2 => o = none ∧ H2 = H1) I1 ⟨rfl, rfl⟩) fun vl s2 ⟨o2, H2, I2, pl, el, e2⟩ => ?_)
  subst el e2
  refine thn (po_none.run pins s2 σ H2 (fun o H3 => o = none ∧ H3 = H2) I2 ⟨rfl, rfl⟩) fun vu s3 ⟨o3, H3, I3, pu, eu, e3⟩ => ?_
  subst eu e3
  refine thn (step.run pins s3 σ H3 (fun o H4 => o = some (-1) ∧ H4 = H3) I3 ⟨1, rfl, -1, rfl, rfl, rfl⟩) fun vs s4 ⟨o4, H4, I4, ps, eo, e4⟩ => ?_
  subst eo e4
  have I5 : Inv X pins σ H4 { s4 with heap := s4.heap.push { cls := .type "slice", data := .fields #[vl, vu, vs] } } := I4.kept (t' := s4.toks) fun b ob z => Heap.get?_push_of_some _ z
  rcases q1 with ⟨a, xs, ex, hx, q⟩ | ⟨a, xs, ex, hx, q⟩
  · subst ex
    cases r1
    obtain ⟨its, r, ht, hz⟩ := I5.list hx
    have hl := r.length
    show wpAny (model X.prog X.w) X.A (subscriptTail e (.Slice none none (some (.UnaryOp .USub (.Constant (.int 1) k p1) p2)) p3) (.ref a) (.ref s4.heap.objs.size)) (EP X pins σ Q) X.xe { s4 with heap := s4.heap.push { cls := .type "slice", data := .fields #[vl, vu, vs] } }
    refine tail_any (ops := [.ref a, .ref s4.heap.objs.size]) ht.isList.typeIs PySem.slot_list_getitem.lookup ?_ (by with_unfolding_all rfl)
    refine wpAny_getItem_list_slice ht.isList (Heap.IsSliceOf.new _ vl vu vs) pl pu ps (by decide) ?_ (by rw [List.size_toArray]; omega)
    rw [PySem.W.krv_pick]
    exact ⟨.ref _, _, I5.laid (t' := s4.toks) (o := .lst xs.reverse) (fun b ob z => Heap.get?_push_of_some _ z) (Nat.le_refl _) ⟨by rw [List.length_reverse]; exact hz, _, 0, r.reverse, Heap.get?_push_size _ rfl⟩, rfl, q _ (I5.hok.fresh (Nat.le_refl _))⟩
  · subst ex
    cases r1
    cases pl
    cases pu
    obtain ⟨its, r, ht, hz⟩ := I5.tuple hx
    have hl := r.length
    show wpAny (model X.prog X.w) X.A (subscriptTail e (.Slice none none (some (.UnaryOp .USub (.Constant (.int 1) k p1) p2)) p3) (.ref a) (.ref s4.heap.objs.size)) (EP X pins σ Q) X.xe { s4 with heap := s4.heap.push { cls := .type "slice", data := .fields #[.none, .none, vs] } }
    refine tail_any (ops := [.ref a, .ref s4.heap.objs.size]) ht.typeIs PyProof.Rows.slot_tuple_getitem.lookup ?_ (by with_unfolding_all rfl)
    refine item_tupDown ht (Heap.IsSliceOf.new _ .none .none vs) ps ?_ (by rw [List.size_toArray]; omega)
    exact ⟨.ref _, _, I5.laid (t' := s4.toks) (o := .tup xs.reverse) (fun b ob z => Heap.get?_push_of_some _ z) (Nat.le_refl _) ⟨by rw [List.length_reverse]; exact hz, _, r.reverse, IsTup.new _ _⟩, rfl, q _ (I5.hok.fresh (Nat.le_refl _))⟩⟩
def gRevB (w : W) (S : Store) : O := match asTW w with
  | some ws => some (mkT ws.reverse, S)
  | none => gRev w S
theorem RepWs.reverse {K : PySem.W.Frag} {η : List Addr} {H : Hp} : ∀ {ws : List W} {vs : List V}, RepWs K η H ws vs → RepWs K η H ws.reverse vs.reverse
  | [], _, h => by cases h; exact .nil
  | x :: xs, _, h => by
    cases h with
    | cons h1 h2 =>
      rw [List.reverse_cons, List.reverse_cons]
      exact (RepWs.reverse h2).append (.cons h1 .nil)
theorem i_revB {e : Expr} {f : FE} {k : Nat} {p1 p2 p3 pos : Pos} (he : PE X e (tF (gx X ct) E f)) : PE X (.Subscript e (.Slice none none (some (.UnaryOp .USub (.Constant (.int 1) k p1) p2)) p3) pos) (tF (gx X ct) E (f1 gRevB f)) :=
  PEw (pe_revB he) (get1 (r := fun x H1 Q => (∃ a xs, x = .ref a ∧ SqL X.K H1 a xs ∧ ∀ p, H1 p = none → Q (.ref p) (upd H1 p (.lst xs.reverse))) ∨ ∃ a xs, x = .ref a ∧ SqT X.K H1 a xs ∧ ∀ p, H1 p = none → Q (.ref p) (upd H1 p (.tup xs.reverse))) fun x H Q ⟨η, S, w, rp, r, h⟩ => by
    unfold gRevB at h
    split at h
    · rename_i ws e
      obtain ⟨a, vs, rfl, h1, h2⟩ := asTW_ok e r
      exact .inr ⟨a, vs, rfl, h1, new_mkT rp h2.reverse h⟩
    · unfold gRev at h
      split at h
      · rename_i ws e
        obtain ⟨a, vs, rfl, h1, h2⟩ := asLW_ok e rp r
        cases q : datas ws with
        | none => rw [q] at h; exact h.elim
        | some ds =>
          rw [q] at h
          exact .inl ⟨a, vs, rfl, h1, new_list rp (datas_ok q h2).reverse h⟩
      · exact h.elim)
end
end VI
set_option Elab.async false
set_option linter.all false
set_option maxRecDepth 100000
namespace VI
open PySem PySem.Spec PyProof.Rows L2

/-! calls of the program's own defs -/
/-- a def of the module: the name x gives it, it does g -/
def Callee (P : Program) (w : World) (K : PySem.W.Frag) (mg : Str → Option Value) (base : Heap) (ct : Nat → Option Addr) (k : Nat) (x : Str) (ps : List Str) (g : List W → Store → R W) : Prop :=
  ∃ (f : Addr) (fd : FuncData), FnG P w K mg base CX0 k f fd ps (spG ⟨K, ct⟩ ps.length g) ∧ mg x = some (.ref f) ∧ PySem.W.keepIn K (.ref f) = true ∧ Binds K fd ps []
section
variable {X : Cx} {ct : Nat → Option Addr} {k n : Nat} {x : Str} {ps : List Str} {g : List W → Store → R W} {p pos : Pos} {e : Expr} {es : List Expr} {fa : FA}
theorem cCall (C : Callee X.prog X.w X.K X.mg X.base ct k x ps g) (hr : Room k X.A) (hgd : X.A.guards = some []) (ha : PA X (e :: es) (tA (gx X ct) NX fa)) (hn : ps.length = n := by rfl) (hg : Gl X x := by rfl) (hdb : (x == ("__debug__" : Str)) = false := by decide)
    (he : starEach (e :: es) X.env = (false, eval e X.env) :: starEach es X.env := by rfl) (hpl : (backTo pos (starEach es X.env)).any (·.1) = false := by rfl) : PE X (.Call (.Name x p) (e :: es) [] pos) (tF (gx X ct) NX (fCall n g fa)) := by
  obtain ⟨f, fd, F, m, kp, b⟩ := C
  subst hn
  exact i_call F hr hgd hg m kp b pass0 ha hdb he hpl
theorem cCallL (C : Callee X.prog X.w X.K X.mg X.base ct k x ps g) (hr : Room k X.A) (hgd : X.A.guards = some []) (ha : PA X (e :: es) (tA (gx X ct) NX fa)) (hn : ps.length = n := by rfl) (hg : Gl X x := by rfl) (hdb : (x == ("__debug__" : Str)) = false := by decide)
    (he : starEach (e :: es) X.env = (false, eval e X.env) :: starEach es X.env := by rfl) (hpl : (backTo pos (starEach es X.env)).any (·.1) = false := by rfl) : PE X (.Call (.Name x p) (e :: es) [] pos) (tF (gx X ct) NX (fCallL n g fa)) := by
  obtain ⟨f, fd, F, m, kp, b⟩ := C
  subst hn
  exact i_callL F hr hgd hg m kp b pass0 ha hdb he hpl
end
theorem hu64 {k : Nat} {A : Around} (r : Room k A) : A.units + 64 < cLine := by have := r.un; omega
theorem hu65 {k : Nat} {A : Around} (r : Room k A) : A.units + 65 < cLine := by have := r.un; omega
/-! a comprehension's names -/
def blkB (N : List Str) (sc scope : Scope) (own : List (Str × Nat)) : Bool :=
  decide (scope.kind = .function) && scope.names.all (fun y => decide (scope.names.lookup y.1 = some y.2)) && own.all (fun p => decide (N[p.2]? = some p.1)) &&
    scope.names.all (fun y => !decide (y.2 = .free) || (decide (sc.names.lookup y.1 = some .cell) || decide (sc.names.lookup y.1 = some .free))) &&
    scope.names.all (fun y => !(decide (y.2 = .local) || decide (y.2 = .cell)) || (decide (y.1 ∈ own.map (·.1)) || decide (y.1 ∉ N)))
theorem blk_of {N : List Str} {sc scope : Scope} {own : List (Str × Nat)} (h : blkB N sc scope own = true) : BlkOk N sc scope own := by
  unfold blkB at h
  simp only [Bool.and_eq_true, List.all_eq_true, decide_eq_true_eq, Bool.or_eq_true, Bool.not_eq_true', decide_eq_false_iff_not] at h
  obtain ⟨⟨⟨⟨h1, h2⟩, h3⟩, h4⟩, h5⟩ := h
  refine ⟨h1, fun y m => h2 y m, fun p m => h3 p m, fun y m e => ?_, fun y m e => ?_⟩
  · rcases h4 y m with z | z
    · exact absurd e z
    · exact z
  · rcases h5 y m with z | z
    · rw [Bool.or_eq_false_iff, decide_eq_false_iff_not, decide_eq_false_iff_not] at z
      rcases e with e | e
      · exact absurd e z.1
      · exact absurd e z.2
    · exact z

/-! a, b = e1, e2 -/
def fPar (i j : Nat) (a : FA) : FS := fun ρ S => toS ρ (a ρ S) fun ws S1 => match ws with
  | [u, v] => .next ((ρ.set i (some u)).set j (some v)) S1
  | _ => .bad
theorem s_par {X : Cx} {ct : Nat → Option Addr} {E : EX} (i j : Nat) {x y : Str} {a b : Expr} {fa : FA} {px py pt pos : Pos} {kt k2 : Nat} {pt2 : Pos} (hc : X.calm = true) (hN : X.N.Nodup) (hij : i ≠ j) (ha : PA X [a, b] (tA (gx X ct) E fa))
    (hi : X.N[i]? = some x := by rfl) (hj : X.N[j]? = some y := by rfl) (hx : X.env.scope.names.lookup x = some .local := by rfl) (hy : X.env.scope.names.lookup y = some .local := by rfl)
    (hw : swappedStores [.Tuple [.Name x px, .Name y py] kt pt] (.Tuple [a, b] k2 pt2) X.env = pure (some [x, y]) := by rfl)
    (hs : swapsWithSole [.Tuple [.Name x px, .Name y py] kt pt] (.Tuple [a, b] k2 pt2) pos.line X.env = pure false := by rfl) :
    PS X (.Assign [.Tuple [.Name x px, .Name y py] kt pt] (.Tuple [a, b] k2 pt2) pos) (tS (gx X ct) E (fPar i j fa)) := PSw (ps_par hc hN hi hj hij hx hy ha hw hs) fun D σ H ⟨η, ρ, S, rp, er, h⟩ =>
  ⟨η, ρ, S, rp, er, FinR.mono (FinS.bind er h) fun vs H1 ⟨η1, ws, S1, f1, rp1, r1, h1⟩ => by
    split at h1
    · rename_i u v
      obtain ⟨v1, v2, rfl, r2, r3⟩ := repWs2 r1
      exact ⟨v1, v2, rfl, h1 η1 H1 _ (Fu.refl _ _) rp1 (((er.fu f1).set r2).set r3)⟩
    · exact h1.elim⟩
end VI
set_option Elab.async false
set_option linter.all false
set_option maxRecDepth 100000
namespace VI
open PySem PySem.Spec PyProof.Rows L2

/-! constants of the module -/
def KCon (K : PySem.W.Frag) (mg : Str → Option Value) (x : Str) (d : PyData) : Prop := ∃ (v : V) (u : Value), mg x = some u ∧ RelV v u ∧ ∀ η H, RepD K η H d v
theorem kCon {X : Cx} {ct : Nat → Option Addr} {E : EX} {x : Str} {d : PyData} {pos : Pos} (C : KCon X.K X.mg x d) (hg : Gl X x := by rfl) (hd : (x == ("__debug__" : Str)) = false := by decide) : PE X (.Name x pos) (tF (gx X ct) E (fC d)) := by
  obtain ⟨v, u, m, r, rd⟩ := C
  exact ig hg m r rd hd
def kRow (k : List Str) (d : PyData) : List Str × PyData := (k, d)
/-- a written dict whose keys are tuples of texts -/
def KDic (P : Program) (w : World) (K : PySem.W.Frag) (mg : Str → Option Value) (x : Str) (tab : List (List Str × PyData)) : Prop :=
  ∃ (d : Addr) (xs : List (List Key × Addr × Value)), mg x = some (.ref d) ∧ (∀ h : Heap, K.In h → h.DictOfH (tupleKind (mixKind P w)) d xs) ∧
    ∀ ks pd, tab.lookup ks = some pd → ∃ p, atKey xs (ks.map Sum.inr) = some p ∧ ∃ v, RelV v p.2 ∧ ∀ η H, RepD K η H pd v
def strsD : List PyData → Option (List Str)
  | [] => some []
  | .str x :: r => (strsD r).map (x :: ·)
  | _ :: _ => none
theorem strsD_ok {K : PySem.W.Frag} {η : List Addr} {H : Hp} : ∀ {ds : List PyData} {vs : List V} {ks : List Str}, strsD ds = some ks → RepDs K η H ds vs → vs = (ks.map (Sum.inr (α := Int))).map kV
  | [], _, _, e, r => by cases e; cases r; rfl
  | .str x :: ds, _, ks, e, r => by
    cases r with
    | cons r1 r2 =>
      cases r1
      cases q : strsD ds with
      | none => rw [strsD, q] at e; cases e
      | some ks' =>
        rw [strsD, q] at e
        cases e
        rw [strsD_ok q r2]
        rfl
  | .none :: _, _, _, e, _ => by cases e
  | .bool _ :: _, _, _, e, _ => by cases e
  | .int _ :: _, _, _, e, _ => by cases e
  | .list _ :: _, _, _, e, _ => by cases e
  | .tuple _ :: _, _, _, e, _ => by cases e
  | .dict _ :: _, _, _, e, _ => by cases e
def gKD (tab : List (List Str × PyData)) (w : W) (S : Store) : O := match w with
  | .d (.tuple ds) => match strsD ds with
    | some ks => (tab.lookup ks).map fun pd => (.d pd, S)
    | none => none
  | _ => none
theorem kDic {X : Cx} {ct : Nat → Option Addr} {E : EX} {k : Nat} {x : Str} {tab : List (List Str × PyData)} {i : Expr} {p pos : Pos} {f : FE} (C : KDic X.prog X.w X.K X.mg x tab) (hr : Room k X.A) (hi : PE X i (tF (gx X ct) E f)) (hg : Gl X x := by rfl) (hs : NoSl i := by intro _ _; rfl)
    (hd : (x == ("__debug__" : Str)) = false := by decide) : PE X (.Subscript (.Name x p) i pos) (tF (gx X ct) E (f1 (gKD tab) f)) := by
  obtain ⟨d, xs, m, hD, hT⟩ := C
  have hu : X.A.units + 1 < cLine := by have := hr.un; omega
  have ho : PE X (.Name x p) (tC (.ref d)) := pe_glob hg m rfl hd
  refine ⟨fun pins s σ H Q I h => ?_⟩
  refine subD_of PySem.F.slot_dict_getitem.lookup hs (thn (ho.run pins s σ H (fun y H1 => y = .ref d ∧ H1 = H) I ⟨rfl, rfl⟩) fun u s1 ⟨y, H1, I1, ry, ey, eH⟩ => ?_)
  subst ey
  subst eH
  obtain rfl : u = Value.ref d := ry
  refine thn (hi.run pins s1 σ H1 _ I1 (get1 (r := fun y H2 Q => ∃ b ks pd, y = .ref b ∧ SqT X.K H2 b ((ks.map (Sum.inr (α := Int))).map kV) ∧ tab.lookup ks = some pd ∧ ∀ v, (∀ η H, RepD X.K η H pd v) → Q v H2) (fun y H2 Q ⟨η, S, w, rp, r, h⟩ => ?_) σ H1 Q h)) fun iv s2 ⟨y, H2, I2, ry2, b, ks, pd, ey, hb, hl, q⟩ => ?_
  · clear h
    subst ey
    obtain rfl : iv = Value.ref b := ry2
    obtain ⟨pr, ep, v, rv, rd⟩ := hT ks pd hl
    have dd := hD s2.heap I2.kIn
    obtain ⟨its, rr, it, _⟩ := I2.tuple hb
    obtain ⟨o, g1, g2, n, g3⟩ := it
    have key : (tupleKind (mixKind X.prog X.w)).is s2.heap (ks.map Sum.inr) b := ⟨o, its.toArray, n, g1, g2, g3, by simpa using items_are rr⟩
    refine ⟨dd.typeIs, wpAny_getItem_heap (tupleKind_room_in1 hu) key dd ep ⟨v, H2, I2.tok _, rv, q v rd⟩⟩
  · unfold gKD at h
    split at h
    · rename_i ds
      split at h
      · rename_i ks ek
        cases r with
        | d r =>
          cases r with
          | tuple h1 h2 =>
            rw [strsD_ok ek h2] at h1
            cases el : tab.lookup ks with
            | none => rw [el] at h; exact h.elim
            | some pd =>
              rw [el] at h
              exact ⟨_, ks, pd, rfl, h1, el, fun v rv => same_val rp (.d (rv _ _)) h⟩
      · exact h.elim
    · exact h.elim
end VI
set_option Elab.async false
set_option linter.all false
set_option maxRecDepth 100000
namespace VI
open PySem PySem.Spec PyProof.Rows L2

/-! sorted, of texts -/
/-- x not above y -/
def leS (x y : Str) : Bool := !ltCps y.cps.toList x.cps.toList
theorem leS_iff {x y : Str} : leS x y = true ↔ x.cps.toList ≤ y.cps.toList := by
  unfold leS
  rw [ltCps_eq, Bool.not_eq_true', decide_eq_false_iff_not]
  exact List.not_lt
theorem leS_trans {x y z : Str} (h1 : leS x y = true) (h2 : leS y z = true) : leS x z = true := leS_iff.mpr (List.le_trans (leS_iff.mp h1) (leS_iff.mp h2))
theorem leS_total (x y : Str) : leS x y = true ∨ leS y x = true := by
  rcases List.le_total x.cps.toList y.cps.toList with h | h
  · exact .inl (leS_iff.mpr h)
  · exact .inr (leS_iff.mpr h)
theorem leS_anti {x y : Str} (h1 : leS x y = true) (h2 : leS y x = true) : x = y := by
  have e := List.le_antisymm (leS_iff.mp h1) (leS_iff.mp h2)
  cases x with
  | mk a =>
    cases y with
    | mk b =>
      have e' : a.toList = b.toList := e
      rw [Array.toList_inj.mp e']
theorem rising_pair : ∀ (r : List Str) (p : Str), risingS p r = true → (p :: r).Pairwise fun a b => leS a b = true
  | [], p, _ => List.pairwise_singleton _ _
  | x :: r, p, h => by
    rw [risingS, Bool.and_eq_true] at h
    have t := rising_pair r x h.2
    refine List.pairwise_cons.mpr ⟨fun z hz => ?_, t⟩
    rcases List.mem_cons.mp hz with e | hz
    · rw [e]; exact h.1
    · exact leS_trans h.1 ((List.pairwise_cons.mp t).1 z hz)
theorem sorted_pair : ∀ ys : List Str, sortedS ys = true → ys.Pairwise fun a b => leS a b = true
  | [], _ => List.Pairwise.nil
  | x :: r, h => rising_pair r x h
def srtS (zs : List Str) : List Str := zs.mergeSort leS
theorem srtS_eq {ys zs : List Str} (hp : ys.Perm zs) (hs : sortedS ys = true) : ys = srtS zs :=
  List.Perm.eq_of_pairwise (fun a b _ _ h1 h2 => leS_anti h1 h2) (sorted_pair ys hs) (List.pairwise_mergeSort (le := leS) (fun a b c => leS_trans) (fun a b => (Bool.or_eq_true _ _).mpr (leS_total a b)) zs) (hp.trans (List.mergeSort_perm zs leS).symm)
def gSorted (ws : List W) (S : Store) : O := match ws with
  | [u] => match asLW u S with
    | some us => match datas us with
      | some ds => match strsD ds with
        | some ks => if ks.length < 64 then some (.d (.list ((srtS ks).map .str)), S) else none
        | none => none
      | none => none
    | none => none
  | _ => none
theorem strs_rep {K : PySem.W.Frag} {η : List Addr} {H : Hp} : ∀ ks : List Str, RepDs K η H (ks.map PyData.str) (ks.map V.str)
  | [] => .nil
  | k :: ks => .cons (.str k) (strs_rep ks)
theorem strsD_vals {K : PySem.W.Frag} {η : List Addr} {H : Hp} {ds : List PyData} {vs : List V} {ks : List Str} (e : strsD ds = some ks) (r : RepDs K η H ds vs) : vs = ks.map V.str := by
  rw [strsD_ok e r, List.map_map]
  rfl
theorem c_sorted {X : Cx} {ct : Nat → Option Addr} : CallR X (.builtin "sorted") (SimL X ct gSorted) := CallR.fit cr_sortedS fun xs H Q ⟨η, S, ws, rp, rr, q⟩ => by
  unfold gSorted at q
  split at q
  · rename_i u
    obtain ⟨v, rfl, r⟩ := repWs1 rr
    split at q
    · rename_i us e1
      obtain ⟨a, vs, rfl, h1, h2⟩ := asLW_ok e1 rp r
      split at q
      · rename_i ds e2
        have h3 := datas_ok e2 h2
        split at q
        · rename_i ks e3
          split at q
          · rename_i hl
            rw [strsD_vals e3 h3] at h1
            refine ⟨a, ks, rfl, h1, hl, fun ys p hp hs np => ?_⟩
            rw [srtS_eq hp hs]
            exact new_list rp (strs_rep _) q p np
          · exact q.elim
        · exact q.elim
      · exact q.elim
    · exact q.elim
  · exact q.elim
end VI
set_option Elab.async false
set_option linter.all false
set_option maxRecDepth 100000
namespace VI
open PySem PySem.Spec PyProof.Rows L2

/-! a module's defs, all of them -/
def DefAt (K : PySem.W.Frag) (mg : Str → Option Value) (x : Str) (st : Stmt) : Prop := ∃ (f : Addr) (fd : FuncData), FunD K x x (defArgs st) (defBody st) (defScope st) [] [] f fd ∧ mg x = some (.ref f)
section
variable {P : Program} {w : World} {K : PySem.W.Frag} {mg : Str → Option Value} {base : Heap} {ct : Nat → Option Addr} {n : Nat} {x : Str} {st : Stmt} {N ps : List Str} {g : List W → Store → R W} {b : FS}
/-- how its arguments bind -/
def Bnd (x : Str) (st : Stmt) (ps : List Str) : Prop := ∀ (kV doc pm : Value) (an : Option Addr) (cdv cv : Value) (us : List Value), us.length = ps.length → bindArgs (PySem.W.fnOf x x (defArgs st) (defBody st) (defScope st) .none kV doc pm an cdv cv) ⟨us, []⟩ = pure (ps.zip us)
theorem callee_zero (D : DefAt K mg x st) (hB : Bnd x st ps) (h : ∀ ws S, g ws S = .bad) : Callee P w K mg base ct n x ps g := by
  obtain ⟨f, fd, F, m⟩ := D
  exact ⟨f, fd, fnG_zero h, m, F.kp, F.bindsN hB⟩
theorem callee_succ (D : DefAt K mg x st) (hB : Bnd x st ps) (hS : FnScope N ps (defScope st)) (e : ∀ ws S, g ws S = runB N.length b ws S)
    (h : ∀ (f : Addr) (cdv : Value) (A : Around) (outer : List Env) (s : Shared) (H : Hp) (E : XK), Room n (A.deeper (envOfC x (defScope st) s.heap.objs.size f cdv)) → A.guards = some [] → PSs (bodyX P w K mg base N x (defScope st) f cdv A outer s H E) (defBody st) (tS ⟨K, ct⟩ NX b)) :
    Callee P w K mg base ct (n + 1) x ps g := by
  obtain ⟨f, fd, F, m⟩ := D
  exact ⟨f, fd, FunD.okG F hS fun cdv A outer s H E r gd => ⟨b, fun ws S _ => e ws S, h f cdv A outer s H E r gd⟩, m, F.kp, F.bindsN hB⟩
end
end VI
set_option Elab.async false
set_option linter.all false
set_option maxRecDepth 100000
namespace VI
open PySem PySem.Spec PyProof.Rows L2

/-! isinstance, of built-in types -/
def isT (t T : String) : Bool := t == T || (t == "bool" && T == "int")
theorem kit_all (K : PySem.W.Frag) : (tys.all fun t => tys.all fun T => decide (PySem.W.kitOne K (.type t) (.type T) = some (isT t T))) = true := by kernel_rfl
theorem kit_ty {K : PySem.W.Frag} {t T : String} (h1 : t ∈ tys) (h2 : T ∈ tys) : PySem.W.kitOne K (.type t) (.type T) = some (isT t T) :=
  of_decide_eq_true (List.all_eq_true.mp (List.all_eq_true.mp (kit_all K) t h1) T h2)
def tyW (w : W) (S : Store) : Option String := match w with
  | .d .none => some "NoneType"
  | .d (.bool _) => some "bool"
  | .d (.int _) => some "int"
  | .d (.str _) => some "str"
  | .d (.list _) => some "list"
  | .d (.tuple _) => some "tuple"
  | .d (.dict _) => none
  | .loc l => match S[l]? with
    | some (.lst _) => some "list"
    | _ => none
  | .tp _ => some "tuple"
  | .fro _ => some "list"
  | .lw _ => some "list"
  | .er _ _ _ => none
theorem tup_ty {K : PySem.W.Frag} {H : Hp} {a : Addr} {vs : List V} (h : SqT K H a vs) : TyX K H (.ref a) (.type "tuple") := by
  rcases h with (h | ⟨o, h⟩) | ⟨o, its, n, e, c, _⟩
  · exact .base (.tup h)
  · exact .fTuple h
  · exact .kTuple e c
theorem tyW_ok {K : PySem.W.Frag} {η : List Addr} {H : Hp} {S : Store} {w : W} {v : V} {t : String} (e : tyW w S = some t) (rp : Rp K η H S) (r : RepW K η H w v) : TyX K H v (.type t) ∧ t ∈ tys := by
  cases w with
  | d x =>
    cases r with
    | d r =>
      cases r with
      | none => cases e; exact ⟨.base .non, by decide⟩
      | bool b => cases e; exact ⟨.base (.bl b), by decide⟩
      | int i => cases e; exact ⟨.base (.int i), by decide⟩
      | str x => cases e; exact ⟨.base (.str x), by decide⟩
      | list h1 h2 h3 => cases e; exact ⟨.base (.lst h1), by decide⟩
      | tuple h1 h2 => cases e; exact ⟨tup_ty h1, by decide⟩
      | dct _ _ => cases e
      | own _ _ _ => cases e
      | dctE _ _ _ _ => cases e
      | ownE _ _ _ _ _ _ => cases e
  | loc l =>
    unfold tyW at e
    cases q : S[l]? with
    | none => simp only [q] at e; cases e
    | some o =>
      cases o with
      | lst xs =>
        simp only [q] at e
        cases e
        obtain ⟨a, vs, rfl, _, h1, _⟩ := live_at q rp r
        exact ⟨.base (.lst h1), by decide⟩
      | dK _ => simp only [q] at e; cases e
      | dT _ => simp only [q] at e; cases e
      | ob _ _ => simp only [q] at e; cases e
      | lw _ => simp only [q] at e; cases e
  | tp ws =>
    cases e
    cases r with
    | tp h1 h2 => exact ⟨tup_ty h1, by decide⟩
  | fro ws =>
    cases e
    cases r with
    | fro h1 h2 =>
      rcases h1 with ⟨o, h⟩ | ⟨o, its, n, hk, hc, _⟩
      · exact ⟨.base (.frz h), by decide⟩
      · exact ⟨.kList hk hc, by decide⟩
  | lw ws =>
    cases e
    cases r with
    | lw h1 _ _ => exact ⟨.base (.lst h1), by decide⟩
  | er _ _ _ => cases e
def gIsi (T : String) (w : W) (S : Store) : O := (tyW w S).map fun t => (.d (.bool (isT t T)), S)
section
variable {X : Cx} {ct : Nat → Option Addr} {E : EX}
theorem i_isi (T : String) {x : Str} {e : Expr} {p p2 pos : Pos} {f : FE} (hT : T ∈ tys) (hg : Gl X "isinstance") (hm : X.mg "isinstance" = none) (hx : Gl X x) (hmx : X.mg x = none) (hv : bootBuiltins x = some (.type T)) (he : PE X e (tF (gx X ct) E f)) (hn : x ≠ "__name__" := by decide)
    (hd : (x == ("__debug__" : Str)) = false := by decide) (hs : starEach [e, .Name x p2] X.env = (false, eval e X.env) :: starEach [.Name x p2] X.env := by rfl) (hs2 : starEach [.Name x p2] X.env = (false, eval (.Name x p2) X.env) :: starEach [] X.env := by rfl) (hpl : (backTo pos (starEach [.Name x p2] X.env)).any (·.1) = false := by rfl)
    (hb : bootBuiltins "isinstance" = some (.builtin "isinstance") := by decide +kernel) : PE X (.Call (.Name "isinstance" p) [e, .Name x p2] [] pos) (tF (gx X ct) E (f1 (gIsi T) f)) :=
  PEw (pe_callB call_isi hg hm hb (pa_cons he (pa_cons (pe_bltn (v := .ty T) hx hmx hv rfl hn hd) pa_nil hs2) hs) (by decide) (by decide) hs hpl) fun σ H Q ⟨η, ρ, S, rp, er, h⟩ =>
    ⟨η, ρ, S, rp, er, FinR.mono (FinR.bind (rel := relW (gx X ct)) h) fun v H1 ⟨η1, w, S1, f1, rp1, r1, h1⟩ => by
      cases q : tyW w S1 with
      | none =>
        have h2 : FinP (gx X ct) (E σ) η1 H1 (lift (gIsi T w S1)) Q := h1
        unfold gIsi at h2
        rw [q] at h2
        exact h2.elim
      | some t =>
        have h2 : FinP (gx X ct) (E σ) η1 H1 (lift (gIsi T w S1)) Q := h1
        unfold gIsi at h2
        rw [q] at h2
        obtain ⟨ty, ht⟩ := tyW_ok q rp1 r1
        exact ⟨v, .ty T, .type t, .type T, isT t T, rfl, .ty T, ty, kit_ty ht hT, h2 η1 H1 _ (Fu.refl _ _) rp1 (.d (.bool _))⟩⟩
end
end VI
set_option Elab.async false
set_option linter.all false
set_option maxRecDepth 100000
namespace VI
open PySem PySem.Spec PyProof.Rows L2

/-! texts -/
section
variable {X : Cx} {ct : Nat → Option Addr} {E : EX}
/-- cut, of any of the three -/
def gSlA (a : W) (lo hi : Option Int) (S : Store) : O := match a with
  | .d (.str z) => if z.length ≤ lim then some (.d (.str (cutS z lo hi)), S) else none
  | a => gSl a lo hi S
theorem sl_all : SlR X (SimS X ct gSlA) := by
  intro pins s σ H x v vl vu lo hi sl Q I rx hs pl pu ⟨η, S, w, rp, r, h⟩
  unfold gSlA at h
  split at h
  · rename_i z
    split at h
    · rename_i hz
      cases r with
      | d r =>
        cases r
        exact sl_str pins s σ H _ v vl vu lo hi sl Q I rx hs pl pu ⟨z, rfl, lim_ok hz, same_val rp (.d (.str _)) h⟩
    · exact h.elim
  · exact sl_any pins s σ H x v vl vu lo hi sl Q I rx hs pl pu ⟨η, S, w, rp, r, h⟩
theorem i_slA {e : Expr} {lo hi : Option Expr} {fe : FE} {fl fh : FO} {pos p2 : Pos} (he : PE X e (tF (gx X ct) E fe)) (hl : PO X lo (tO (gx X ct) E fl)) (hu : PO X hi (tO (gx X ct) E fh)) : PE X (.Subscript e (.Slice lo hi none p2) pos) (tF (gx X ct) E (fSl gSlA fe fl fh)) :=
  PEw (pe_slice sl_all he hl hu) fun σ H Q ⟨η, ρ, S, rp, er, h⟩ =>
    ⟨η, ρ, S, rp, er, FinR.mono (FinR.bind h) fun v H1 ⟨η1, w, S1, f, rp1, r1, h1⟩ =>
      ⟨η1, ρ, S1, rp1, er.fu f, FinR.mono (FinR.bind h1) fun v2 H2 ⟨η2, l, S2, f2, rp2, r2, h2⟩ =>
        ⟨η2, ρ, S2, rp2, (er.fu f).fu f2, FinR.mono (FinR.bind h2) fun v3 H3 ⟨η3, u, S3, f3, rp3, r3, h3⟩ => by
          obtain rfl : v2 = l := r2
          obtain rfl : v3 = u := r3
          exact ⟨η3, S3, w, rp3, RepW.fu f3 _ _ (RepW.fu f2 _ _ r1), lift_ok h3⟩⟩⟩⟩
/-- in: a text within a text, a flat value in a sequence -/
def gInS (a b : W) (S : Store) : O := match a, b with
  | .d (.str i), .d (.str j) => some (.d (.bool (!(Builtin.Str.occurrences j i 0 j.length 1).isEmpty)), S)
  | _, _ => none
def gInA (a b : W) (S : Store) : O := match gInS a b S with
  | some o => some o
  | none => gIn false a b S
theorem sim_inS : OpR X (compareOp .In) (Sim2 X ct gInS) := OpR.fit op_in_str fun x y H Q ⟨η, S, wx, wy, rp, rx, ry, h⟩ => by
  unfold gInS at h
  split at h
  · cases rx with
    | d rx =>
      cases ry with
      | d ry =>
        cases rx
        cases ry
        exact ⟨_, _, rfl, rfl, same_val rp (.d (.bool _)) h⟩
  · exact h.elim
theorem sim_inA : OpR X (compareOp .In) (Sim2 X ct gInA) := OpR.orElse sim_inS sim_in
/-! methods of texts -/
def mSplit : GM := fun o ws S => match o, ws with
  | .d (.str a), [.d (.str b)] => if b.length ≠ 0 ∧ a.length + 2 ≤ lim then some (.d (.list ((Txt.split a b).map PyData.str)), S) else none
  | _, _ => none
theorem m_split : MtR X "str.split" (SimM X ct mSplit) := MtR.fit mt_split fun x xs H Q ⟨η, S, wx, ws, rp, rx, rr, h⟩ => by
  unfold mSplit at h
  split at h
  · rename_i a b
    obtain ⟨v, rfl, r⟩ := repWs1 rr
    cases rx with
    | d rx =>
      cases r with
      | d r =>
        cases rx
        cases r
        split at h
        · rename_i hz
          exact ⟨a, b, rfl, rfl, by simpa using hz.1, lim_ok hz.2, new_list rp (strs_rep _) h⟩
        · exact h.elim
  · exact h.elim
def fMethS (g : GM) (o : FE) (a : FA) : FE := fun ρ S => (o ρ S).bind fun ov S1 => match ov with
  | .d (.str z) => (a ρ S1).bind fun ws S2 => lift (g (.d (.str z)) ws S2)
  | _ => .bad
theorem i_methS {o e : Expr} {es : List Expr} {name : Str} {apos cpos : Pos} {id : String} {g : GM} {fo : FE} {fa : FA} (slot : Slot "str" name id) (hty : typeOf (.builtin id) = pure (.type "method_descriptor")) (hm : MtR X id (SimM X ct g)) (ho : PE X o (tF (gx X ct) E fo)) (ha : PA X (e :: es) (tA (gx X ct) E fa))
    (hbase : attributeBase o name X.env (eval o X.env) = eval o X.env := by rfl)
    (hfew : ((backTo cpos (starEach (e :: es) X.env)).all (fun x => !x.1) && (backToKw cpos (keywordEach [] X.env)).all (fun x => x.1.isSome)
      && decide ((e :: es).length + ([] : List Keyword).length + (if ([] : List Keyword).isEmpty then 0 else 1) < 30)) = true := by rfl)
    (hline : (apos.endLine == cpos.line) = true := by rfl) (hs : starEach (e :: es) X.env = (false, eval e X.env) :: starEach es X.env := by rfl) (hplain : (backTo cpos (starEach es X.env)).any (·.1) = false := by rfl) :
    PE X (.Call (.Attribute o name apos) (e :: es) [] cpos) (tF (gx X ct) E (fMethS g fo fa)) := PEw (pe_bm PySem.F.plainAttrs_str slot hty hm ho ha hbase hfew hline hs hplain) fun σ H Q ⟨η, ρ, S, rp, er, h⟩ =>
  ⟨η, ρ, S, rp, er, FinR.mono (FinR.bind (rel := relW (gx X ct)) h) fun v H1 ⟨η1, w, S1, f1, rp1, r1, h1⟩ => by
    split at h1
    · rename_i z
      have r0 := r1
      cases r1 with
      | d r1 =>
        cases r1
        exact ⟨rfl, η1, ρ, S1, rp1, er.fu f1, FinR.mono (FinR.bind (rel := relL (gx X ct)) h1) fun vs H2 ⟨η2, ws, S2, f2, rp2, r2, h2⟩ => ⟨η2, S2, _, ws, rp2, RepW.fu f2 _ _ r0, r2, lift_ok h2⟩⟩
    · exact h1.elim⟩
/-! a text walked -/
def sigW (z : Str) : List W := z.cps.toList.map fun c => W.d (.str ⟨#[c]⟩)
def wkStr (w : W) : Option Wk := match w with
  | .d (.str z) => some ⟨sigW z, fun _ => True⟩
  | _ => none
def fItStr (a : FE) : FK := fun ρ S => (a ρ S).bind fun w S1 => seqR (wkStr w) S1
theorem walk_str {K : PySem.W.Frag} {η : List Addr} {H : Hp} {z : Str} : WalkOk K ⟨sigW z, fun _ => True⟩ η H (Its z) where
  stop := fun η' H' S' f rp ok => by
    show z.cps.size ≤ (sigW z).length
    unfold sigW
    rw [List.length_map, Array.length_toList]
    exact Nat.le_refl _
  go := fun η' H' S' i w f rp ok e => by
    have e' : (sigW z)[i]? = some w := e
    unfold sigW at e'
    rw [List.getElem?_map, Array.getElem?_toList] at e'
    cases q : z.cps[i]? with
    | none => rw [q] at e'; cases e'
    | some c =>
      rw [q] at e'
      have ew : W.d (.str ⟨#[c]⟩) = w := Option.some.inj e'
      subst ew
      refine ⟨(Array.getElem?_eq_some_iff.mp q).1, fun y H'' yl => ?_⟩
      obtain ⟨rfl, c', q', rfl⟩ := yl
      rw [q] at q'
      cases q'
      exact ⟨Fu.refl _ _, rp, .d (.str _)⟩
theorem w_str {tg e : Expr} {f : FE} (he : PE X e (tF (gx X ct) E f)) : PI X tg e (tI (gx X ct) E (fItStr f)) := PIw (pi_str he) fun σ H R ⟨η, ρ, S, rp, er, h⟩ =>
  ⟨η, ρ, S, rp, er, FinR.mono (FinR.bind (rel := relW (gx X ct)) h) fun v H1 ⟨η1, w, S1, f1, rp1, r1, h1⟩ => by
    obtain ⟨x, e1, h2⟩ := seqR_fin h1
    unfold wkStr at e1
    split at e1
    · cases e1
      cases r1 with
      | d r1 => cases r1; exact ⟨_, rfl, h2 η1 H1 _ (Fu.refl _ _) rp1 walk_str⟩
    · cases e1⟩
end
end VI
namespace VI
open PySem PySem.Spec PyProof.Rows L2
section
variable {X : Cx} {ct : Nat → Option Addr}
/-- f() -/
theorem cCall0 {k n : Nat} {x : Str} {ps : List Str} {g : List W → Store → R W} {p pos : Pos} (C : Callee X.prog X.w X.K X.mg X.base ct k x ps g) (hr : Room k X.A) (hgd : X.A.guards = some []) (hn : ps.length = n := by rfl) (hn0 : n = 0 := by rfl) (hg : Gl X x := by rfl) (hdb : (x == ("__debug__" : Str)) = false := by decide) :
    PE X (.Call (.Name x p) [] [] pos) (tF (gx X ct) NX (fCall n g fA0)) := by
  obtain ⟨f, fd, F, m, kp, b⟩ := C
  subst hn
  refine PEw (pe_callG0 F hr hgd hg m kp b pass0 hdb) fun σ H Q ⟨η, ρ, S, rp, er, h⟩ => ?_
  have h1 : FinP (gx X ct) E0 η H (if ([] : List W).length = ps.length then frz S.length (g [] S) else .bad) Q := h
  rw [if_pos (by rw [hn0]; rfl)] at h1
  exact ⟨by rw [hn0]; rfl, η, S, [], rp, .nil, FinR.frz rp h1⟩
theorem cCall0L {k n : Nat} {x : Str} {ps : List Str} {g : List W → Store → R W} {p pos : Pos} (C : Callee X.prog X.w X.K X.mg X.base ct k x ps g) (hr : Room k X.A) (hgd : X.A.guards = some []) (hn : ps.length = n := by rfl) (hn0 : n = 0 := by rfl) (hg : Gl X x := by rfl) (hdb : (x == ("__debug__" : Str)) = false := by decide) :
    PE X (.Call (.Name x p) [] [] pos) (tF (gx X ct) NX (fCallL n g fA0)) := by
  obtain ⟨f, fd, F, m, kp, b⟩ := C
  subst hn
  refine PEw (pe_callG0 F hr hgd hg m kp b pass0 hdb) fun σ H Q ⟨η, ρ, S, rp, er, h⟩ => ?_
  have h1 : FinP (gx X ct) E0 η H (if ([] : List W).length = ps.length then g [] S else .bad) Q := h
  rw [if_pos (by rw [hn0]; rfl)] at h1
  exact ⟨by rw [hn0]; rfl, η, S, [], rp, .nil, h1⟩
end
end VI
namespace VI
open PySem PySem.Spec PyProof.Rows L2
/-- a, b, c = e1, e2, e3 -/
def fPar3 (i j k : Nat) (a : FA) : FS := fun ρ S => toS ρ (a ρ S) fun ws S1 => match ws with
  | [u, v, w] => .next (((ρ.set i (some u)).set j (some v)).set k (some w)) S1
  | _ => .bad
theorem s_par3 {X : Cx} {ct : Nat → Option Addr} {E : EX} (i j l : Nat) {x y z : Str} {a b c : Expr} {fa : FA} {px py pz pt pos : Pos} {kt k2 : Nat} {pt2 : Pos} (hc : X.calm = true) (hN : X.N.Nodup) (hij : i ≠ j) (hil : i ≠ l) (hjl : j ≠ l) (ha : PA X [a, b, c] (tA (gx X ct) E fa))
    (hi : X.N[i]? = some x := by rfl) (hj : X.N[j]? = some y := by rfl) (hl : X.N[l]? = some z := by rfl) (hx : X.env.scope.names.lookup x = some .local := by rfl) (hy : X.env.scope.names.lookup y = some .local := by rfl) (hz : X.env.scope.names.lookup z = some .local := by rfl)
    (hw : swappedStores [.Tuple [.Name x px, .Name y py, .Name z pz] kt pt] (.Tuple [a, b, c] k2 pt2) X.env = pure (some [x, y, z]) := by rfl)
    (hs : swapsWithSole [.Tuple [.Name x px, .Name y py, .Name z pz] kt pt] (.Tuple [a, b, c] k2 pt2) pos.line X.env = pure false := by rfl) :
    PS X (.Assign [.Tuple [.Name x px, .Name y py, .Name z pz] kt pt] (.Tuple [a, b, c] k2 pt2) pos) (tS (gx X ct) E (fPar3 i j l fa)) := PSw (ps_par3 hc hN hi hj hl hij hil hjl hx hy hz ha hw hs) fun D σ H ⟨η, ρ, S, rp, er, h⟩ =>
  ⟨η, ρ, S, rp, er, FinR.mono (FinS.bind er h) fun vs H1 ⟨η1, ws, S1, f1, rp1, r1, h1⟩ => by
    split at h1
    · rename_i u v w
      obtain ⟨v1, v2, v3, rfl, r2, r3, r4⟩ := repWs3 r1
      exact ⟨v1, v2, v3, rfl, h1 η1 H1 _ (Fu.refl _ _) rp1 ((((er.fu f1).set r2).set r3).set r4)⟩
    · exact h1.elim⟩
end VI
set_option Elab.async false
set_option linter.all false
set_option maxRecDepth 100000
namespace VI
open PySem PySem.Spec PyProof.Rows L2

/-! calls where something may be raised -/
section
variable {X : Cx} {ct : Nat → Option Addr} {CX : CXT} {k : Nat} {E : EX}
theorem run_E {f : Addr} {fd : FuncData} {ps : List Str} {sp : Sp} {pins : List (Addr × Obj)} {σ : L2.St} {H : Hp} {s : Shared} {Q : VK} {us : List Value} {vs : List V} {Z : XK} (F : FnG X.prog X.w X.K X.mg X.base CX k f fd ps sp) (room : Room k X.A) (gd : X.A.guards = some []) (bn : Binds X.K fd ps []) (px : PassesAt CX X σ Z)
    (inv : Inv X pins σ H s) (rel : Vals vs us) (pre : sp vs H Q Z) : wpAny (model X.prog X.w) X.A (call (.ref f) us) (EP X pins σ Q) X.xe s := by
  have ln : us.length = ps.length := rel.length.symm.trans (F.len _ _ _ _ pre)
  have bs := bn s us inv.kIn (by rw [List.append_nil]; exact ln)
  rw [List.append_nil] at bs
  refine wpAny_call (codeAny_mono (F.run X.A X.stack s H ⟨us, []⟩ us vs Q Z room gd inv.env0 bs rel pre) fun res t hres => ?_)
  cases res with
  | error er => exact px pins H s er t inv hres
  | ok fl =>
    cases fl with
    | ret u => exact inv.after hres
    | next => exact hres.elim
    | brk => exact hres.elim
    | cont => exact hres.elim
/-- a def of the module that may raise as CX says -/
def CalleeC (CX : CXT) (P : Program) (w : World) (K : PySem.W.Frag) (mg : Str → Option Value) (base : Heap) (ct : Nat → Option Addr) (k : Nat) (x : Str) (ps : List Str) (g : List W → Store → R W) : Prop :=
  ∃ (f : Addr) (fd : FuncData), FnG P w K mg base CX k f fd ps (spG ⟨K, ct⟩ ps.length g) ∧ mg x = some (.ref f) ∧ PySem.W.keepIn K (.ref f) = true ∧ Binds K fd ps []
theorem pass0E {σ : L2.St} {Z : XK} : PassesAt CX0 X σ Z := fun _ _ _ _ _ _ h => h.elim
variable {n : Nat} {x : Str} {ps : List Str} {g : List W → Store → R W} {p pos : Pos} {e : Expr} {es : List Expr} {fa : FA}
theorem cCallE (C : CalleeC CX X.prog X.w X.K X.mg X.base ct k x ps g) (px : ∀ σ, PassesAt CX X σ (E σ)) (room : Room k X.A) (gd : X.A.guards = some []) (ha : PA X (e :: es) (tA (gx X ct) E fa)) (hn : ps.length = n := by rfl) (hg : Gl X x := by rfl) (hdb : (x == ("__debug__" : Str)) = false := by decide)
    (he : starEach (e :: es) X.env = (false, eval e X.env) :: starEach es X.env := by rfl) (hpl : (backTo pos (starEach es X.env)).any (·.1) = false := by rfl) : PE X (.Call (.Name x p) (e :: es) [] pos) (tF (gx X ct) E (fCall n g fa)) := by
  obtain ⟨f, fd, F, m, kp, bn⟩ := C
  subst hn
  refine ⟨fun pins s σ H Q inv ⟨η, ρ, S, rp, er, h⟩ => ?_⟩
  refine wpAny_Call_Name_kw (ld_glob inv hg m ?_ hdb)
  refine PySem.W.callWith_K (h₀ := X.base) inv.ok.mod.kin kp (thn (ha.run pos pins s σ H _ inv ⟨η, ρ, S, rp, er, FinR.bind (rel := relL (gx X ct)) h⟩) fun us s1 ⟨vs, H1, inv1, rel, η1, ws, S1, f1, rp1, r1, h1⟩ => ⟨inv1.kIn, ?_⟩) he hpl
  have h2 : FinP (gx X ct) (E σ) η1 H1 (if ws.length = ps.length then frz S1.length (g ws S1) else .bad) Q := h1
  by_cases hw : ws.length = ps.length
  · rw [if_pos hw] at h2
    exact run_E F room gd bn (px σ) inv1 rel ⟨by rw [← r1.length]; exact hw, η1, S1, ws, rp1, r1, FinR.frz rp1 h2⟩
  · rw [if_neg hw] at h2
    exact h2.elim
end

/-! a def that may raise -/
def toRX : RF → R W
  | .next _ S => .ok (.d .none) S
  | .ret w S => .ok w S
  | .exc c fs _ S => .exc c fs S
  | _ => .bad
def runX (n : Nat) (b : FS) (ws : List W) (S : Store) : R W := toRX (b (startR n ws) S)
section
variable {P : Program} {w : World} {K : PySem.W.Frag} {mg : Str → Option Value} {base : Heap} {ct : Nat → Option Addr}
abbrev bodyE (P : Program) (w : World) (K : PySem.W.Frag) (mg : Str → Option Value) (base : Heap) (N : List Str) (qual : Str) (scope : Scope) (f : Addr) (cd : Value) (A : Around) (outer : List Env) (s : Shared) (H : Hp) (E : XK) : Cx :=
  cxOf (L2.CX P w) P w K mg base N qual scope f cd A outer s H E
theorem fnX_of {k : Nat} {f : Addr} {name qual : Str} {pr : Arguments} {body : List Stmt} {sc : Scope} {dV kV doc pm cdv ctv oc : Value} {an od : Option Addr} {sl : Array (Option Value)} {N ps : List Str} {g : List W → Store → R W}
    (lk : K.lookup f = some ⟨oc, od, .func (PySem.W.fnOf name qual pr body sc dV kV doc pm an cdv ctv), sl⟩) (hcd : PySem.W.codeIn K cdv qual = true) (hS : FnScope N ps sc)
    (hb : ∀ (A : Around) (outer : List Env) (s : Shared) (H : Hp) (E : XK), Room k (A.deeper (envOfC qual sc s.heap.objs.size f cdv)) → A.guards = some [] → ∃ b : FS, (∀ ws S, ws.length = ps.length → g ws S = runX N.length b ws S) ∧
      PSs (bodyE P w K mg base N qual sc f cdv A outer s H E) body (tS ⟨K, ct⟩ (fun _ => E) b)) :
    FnG P w K mg base (L2.CX P w) (k + 1) f (PySem.W.fnOf name qual pr body sc dV kV doc pm an cdv ctv) ps (spG ⟨K, ct⟩ ps.length g) where
  len := fun vs H Q E h => h.1
  run := by
    intro A outer s H args us vs Q E room gd env bnd rel ⟨hlen, η, S, ws, rp, rr, fin⟩
    have hin : K.In s.heap := env.mod.kin.keeps fun c o z => (env.bs c o z).1
    have nolim : s.heap.NoLimit := env.mod.nolimit.keeps fun c o z => (env.bs c o z).1
    have kinds : ∀ p ∈ ps.zip us, sc.names.lookup p.1 = some .local ∨ (sc.names.lookup p.1 = some .cell ∧ ((cellsFrom (s.heap.objs.size + 1) sc.names []).lookup p.1).isSome = true) := by
      rintro ⟨m, u⟩ hm
      rcases hS.par m (List.of_mem_zip hm).1 with z | z
      · exact Or.inl z
      · exact Or.inr ⟨z, PySem.W.cellsFrom_some _ _ _ (Or.inl z)⟩
    refine codeAny_call_function room.depth (hin _ _ lk) rfl hS.co hS.gen rfl (PySem.W.codeRec_of hin hcd) (bnd _ _ _ _ ?_)
    refine wpAny_newFunctionEnv_cells hS.kind kinds fun en hen t1 tx => ?_
    subst hen
    refine ⟨nolim.keeps tx.toInCall.keep, codeAny_func ?_⟩
    obtain ⟨b, eqb, hbody⟩ := hb A outer s H E (room.deeper _) gd
    have inv0 := inv_start (CX := L2.CX P w) (E := E) hS room.hd env hlen rel tx
    have wl : ws.length = ps.length := by rw [rr.length]; exact hlen
    rw [eqb ws S wl] at fin
    have pre : tS ⟨K, ct⟩ (fun _ => E) b { nx := fun _ H' => Q .non H', rt := Q } (L2.start N vs) H := by
      refine ⟨η, startR N.length ws, S, rp, start_rep rr, ?_⟩
      unfold runX at fin
      cases eb : b (startR N.length ws) S with
      | next ρ2 S2 => rw [eb] at fin; exact fun η2 H2 σ2 f2 rp2 er2 => fin η2 H2 .non f2 rp2 (.d .none)
      | ret u S2 => rw [eb] at fin; exact fin
      | brk ρ2 S2 => rw [eb] at fin; exact fin.elim
      | cnt ρ2 S2 => rw [eb] at fin; exact fin.elim
      | exc c fs ρ2 S2 => rw [eb] at fin; exact fun η2 H2 σ2 C d us f2 rp2 er2 hc hd hf => fin η2 H2 C d us f2 rp2 hc hd hf
      | bad => rw [eb] at fin; exact fin.elim
    refine wpAny_mono (hbody.run [] t1 (L2.start N vs) H _ inv0 pre) (fun fl t2 hf => ?_) fun e t2 hf => hf
    cases fl with
    | ret u =>
      obtain ⟨v, σ2, H2, J, rv, q⟩ := hf
      exact ⟨v, H2, J.os, J.bare, J.base, J.hok, rv, q⟩
    | next =>
      obtain ⟨σ2, H2, J, q⟩ := hf
      exact ⟨V.non, H2, J.os, J.bare, J.base, J.hok, rfl, q⟩
    | brk => exact False.elim (let ⟨_, _, _, q⟩ := hf; q)
    | cont => exact False.elim (let ⟨_, _, _, q⟩ := hf; q)
end

/-! raise C(..), C an own class over ValueError whose __init__ puts its arguments in fields -/
/-- what C(e1, .., en) comes to: an exception with these fields -/
def tMkF (C : Addr) (fs : List Str) (ta : TA) : L2.St → Hp → XK → Prop := fun σ H Q => ta σ H fun vs H1 => vs.length = fs.length ∧ ∀ d, H1 d = none → Q (.ref C) (some d) (upd H1 d (.xd (fs.zip vs).reverse))
def fRaise (c : Nat) (fs : List Str) (a : FA) : FS := fun ρ S => toS ρ (a ρ S) fun ws S1 => if ws.length = fs.length then .exc c (fs.zip ws).reverse ρ S1 else .bad
theorem s_raise {X : Cx} {ct : Nat → Option Addr} {E : EX} {W0 : WX} {e : Expr} {pos : Pos} {c : Nat} {C : Addr} {fs : List Str} {fa : FA} (hc : X.calm = true) (tk : Takes X W0) (hE : ∀ σ cls d H, E σ cls d H → W0 cls d σ H) (hct : ct c = some C) {ta : TA} (he : PMk X e (tMkF C fs ta)) (hta : ∀ σ H Q, tA (gx X ct) E fa σ H Q → ta σ H Q) :
    PS X (.Raise (some e) none pos) (tS (gx X ct) E (fRaise c fs fa)) := PSw (ps_raise hc tk he) fun D σ H ⟨η, ρ, S, rp, er, h⟩ =>
  hta σ H _ ⟨η, ρ, S, rp, er, FinR.mono (FinS.bind (rel := relL (gx X ct)) er h) fun vs H1 ⟨η1, ws, S1, f1, rp1, r1, h1⟩ => by
    have h2 : FinS (gx X ct) E η1 H1 (if ws.length = fs.length then .exc c (fs.zip ws).reverse ρ S1 else .bad) D := h1
    by_cases hw : ws.length = fs.length
    · rw [if_pos hw] at h2
      refine ⟨by rw [← r1.length]; exact hw, fun d hd => hE _ _ _ _ ?_⟩
      have fn := fu_new (η := η1) (o := .xd (fs.zip vs).reverse) hd
      have lv : vs.length = fs.length := by rw [← r1.length]; exact hw
      refine h2 η1 _ σ C d _ fn (rp1.new hd) ((er.fu f1).fu fn) hct upd_same ⟨?_, ?_⟩
      · rw [List.map_reverse, List.map_reverse, List.map_fst_zip (by omega), List.map_fst_zip (by omega)]
      · rw [List.map_reverse, List.map_reverse, List.map_snd_zip (by omega), List.map_snd_zip (by omega)]
        exact RepWs.reverse (RepWs.fu fn _ _ r1)
    · rw [if_neg hw] at h2
      exact h2.elim⟩
end VI
set_option Elab.async false
set_option linter.all false
set_option maxRecDepth 100000
namespace VI
open PySem PySem.Spec PyProof.Rows L2

/-! own exception classes: __init__ puts its arguments in fields -/
def spInit (C : Addr) (fs : List Str) : Sp := fun vs H Q _ => ∃ (a : Addr) (us : List V), vs = .ref a :: us ∧ us.length = fs.length ∧ H a = some (exo a C none) ∧ ∀ dx, H dx = none → dx ≠ a → Q .non (upd (upd H dx (exd dx (fs.zip us).reverse)) a (exo a C (some dx)))
section
variable {P : Program} {w : World} {K : PySem.W.Frag} {mg : Str → Option Value} {base : Heap} {k : Nat} {C fI : Addr} {fd : FuncData} {qual : Str} {pr : Arguments} {body : List Stmt} {sc : Scope} {f1 f2 p1 p2 : Str}
theorem init_one (F : FunD K "__init__" qual pr body sc [] [] fI fd) (hS : FnScope ["self", p1] ["self", p1] sc) (T : OexC K C) (no1 : PySem.W.findIn K (.ref C) f1 = some none)
    (hb : ∀ (cdv : Value) (A : Around) (outer : List Env) (s : Shared) (H : Hp) (E : XK), PSs (cxOf CX0 P w K mg base ["self", p1] qual sc fI cdv A outer s H E) body (tOst K f1 (tVar 0) (tVar 1))) :
    FnOk P w K mg base CX0 (k + 1) fI fd ["self", p1] (spInit C [f1]) := by
  refine FunD.ok F hS (fun vs H Q E h => ?_) fun cdv A outer s H vs Q E hr h => ?_
  · obtain ⟨a, us, rfl, hl, _⟩ := h
    rw [List.length_cons, hl]
    rfl
  · obtain ⟨a, us, rfl, hl, ha, q⟩ := h
    match us, hl with
    | [y], _ =>
      refine ⟨_, hb cdv A outer s H E, ?_⟩
      exact ⟨y, rfl, .ref a, rfl, a, C, rfl, T, no1, .inl ⟨ha, fun dx hd ne => q dx hd ne⟩⟩
theorem init_two (F : FunD K "__init__" qual pr body sc [] [] fI fd) (hS : FnScope ["self", p1, p2] ["self", p1, p2] sc) (T : OexC K C) (no1 : PySem.W.findIn K (.ref C) f1 = some none) (no2 : PySem.W.findIn K (.ref C) f2 = some none)
    (hb : ∀ (cdv : Value) (A : Around) (outer : List Env) (s : Shared) (H : Hp) (E : XK), PSs (cxOf CX0 P w K mg base ["self", p1, p2] qual sc fI cdv A outer s H E) body (tSeq (tOst K f1 (tVar 0) (tVar 1)) (tOst K f2 (tVar 0) (tVar 2)))) :
    FnOk P w K mg base CX0 (k + 1) fI fd ["self", p1, p2] (spInit C [f1, f2]) := by
  refine FunD.ok F hS (fun vs H Q E h => ?_) fun cdv A outer s H vs Q E hr h => ?_
  · obtain ⟨a, us, rfl, hl, _⟩ := h
    rw [List.length_cons, hl]
    rfl
  · obtain ⟨a, us, rfl, hl, ha, q⟩ := h
    match us, hl with
    | [y, z], _ =>
      refine ⟨_, hb cdv A outer s H E, ?_⟩
      refine ⟨y, rfl, .ref a, rfl, a, C, rfl, T, no1, .inl ⟨ha, fun dx hd ne => ?_⟩⟩
      refine ⟨z, rfl, .ref a, rfl, a, C, rfl, T, no2, .inr ⟨dx, [(f1, y)], upd_same, ?_, by show 1 ≤ 900; decide, ?_⟩⟩
      · rw [upd_ne ne, upd_same]
      · have e : upd (upd (upd H dx (exd dx [(f1, y)])) a (exo a C (some dx))) dx (exd dx [(f2, z), (f1, y)]) = upd (upd H dx (exd dx [(f2, z), (f1, y)])) a (exo a C (some dx)) := by
          funext b
          by_cases h1 : b = dx
          · subst h1; rw [upd_same, upd_ne ne, upd_same]
          · rw [upd_ne h1]
            by_cases h2 : b = a
            · subst h2; rw [upd_same, upd_same]
            · rw [upd_ne h2, upd_ne h2, upd_ne h1, upd_ne h1]
        show Q .non _
        rw [e]
        exact q dx hd ne
end
/-- the class x at C, its fields fs -/
structure OwnX (P : Program) (w : World) (K : PySem.W.Frag) (mg : Str → Option Value) (base : Heap) (k : Nat) (x : Str) (C : Addr) (fs : List Str) : Prop where
  at_ : mg x = some (.ref C)
  T : OexC K C
  init : ∃ (fI : Addr) (fd : FuncData) (ps : List Str), PySem.W.findIn K (.ref C) "__init__" = some (some (.ref fI)) ∧ PySem.W.typeIn K (.ref fI) = some (.type "function") ∧ FnOk P w K mg base CX0 k fI fd ps (spInit C fs) ∧ Binds K fd ps []
theorem pmk_F {X : Cx} {ct : Nat → Option Addr} {E : EX} {k : Nat} {x : Str} {C : Addr} {fs : List Str} {e : Expr} {es : List Expr} {p pos : Pos} {fa : FA} (O : OwnX X.prog X.w X.K X.mg X.base k x C fs) (hr : Room (k + 1) X.A) (hn : fs.length ≤ 1000) (ha : PA X (e :: es) (tA (gx X ct) E fa)) (hg : Gl X x := by rfl)
    (hdb : (x == ("__debug__" : Str)) = false := by decide) (he : starEach (e :: es) X.env = (false, eval e X.env) :: starEach es X.env := by rfl) (hpl : (backTo pos (starEach es X.env)).any (·.1) = false := by rfl) :
    PMk X (.Call (.Name x p) (e :: es) [] pos) (tMkF C fs (tA (gx X ct) E fa)) := by
  obtain ⟨m, T, fI, fd, ps, iC, tI, F1, bn⟩ := O
  have base := pmk_oex (p := p) (ds := []) (dvs := []) T iC tI F1 hr bn .nil pass0 hg m ha hdb he hpl
  intro pins s σ H Q I ⟨η, ρ, S, rp, er, h⟩
  refine base pins s σ H Q I ⟨η, ρ, S, rp, er, FinR.mono h fun vs H1 ⟨hl, q⟩ => ?_⟩
  refine ⟨by rw [hl]; exact hn, fun a ha => ⟨a, vs, by rw [List.append_nil], hl, upd_same, fun dx hd ne => ?_⟩⟩
  have hd1 : H1 dx = none := by rw [upd_ne ne] at hd; exact hd
  refine ⟨rfl, dx, (fs.zip vs).reverse, upd_same, ?_, hd1, ?_⟩
  · rw [upd_ne ne, upd_same]
  · have e : upd (del (upd (upd (upd H1 a (exo a C none)) dx (exd dx (fs.zip vs).reverse)) a (exo a C (some dx))) a) dx (.xd (fs.zip vs).reverse) = upd H1 dx (.xd (fs.zip vs).reverse) := by
      funext b
      by_cases h1 : b = dx
      · subst h1; rw [upd_same, upd_same]
      · rw [upd_ne h1, upd_ne h1]
        by_cases h2 : b = a
        · subst h2; rw [del_same, ha]
        · rw [del_ne h2, upd_ne h2, upd_ne h1, upd_ne h2]
    rw [e]
    exact q dx hd1
theorem s_raiseC {X : Cx} {ct : Nat → Option Addr} {E : EX} {W0 : WX} {k c : Nat} {x : Str} {C : Addr} {fs : List Str} {e : Expr} {es : List Expr} {p pos pos2 : Pos} {fa : FA} (hc : X.calm = true) (tk : Takes X W0) (hE : ∀ σ cls d H, E σ cls d H → W0 cls d σ H) (hct : ct c = some C) (O : OwnX X.prog X.w X.K X.mg X.base k x C fs)
    (hr : Room (k + 1) X.A) (hn : fs.length ≤ 1000) (ha : PA X (e :: es) (tA (gx X ct) E fa)) (hg : Gl X x := by rfl) (hdb : (x == ("__debug__" : Str)) = false := by decide) (he : starEach (e :: es) X.env = (false, eval e X.env) :: starEach es X.env := by rfl) (hpl : (backTo pos (starEach es X.env)).any (·.1) = false := by rfl) :
    PS X (.Raise (some (.Call (.Name x p) (e :: es) [] pos)) none pos2) (tS (gx X ct) E (fRaise c fs fa)) :=
  s_raise hc tk hE hct (pmk_F (ct := ct) (E := E) O hr hn ha hg hdb he hpl) fun _ _ _ h => h
end VI
set_option Elab.async false
set_option linter.all false
set_option maxRecDepth 100000
namespace VI
open PySem PySem.Spec PyProof.Rows L2

/-! try with several clauses, each with a name or without -/
/-- a clause as it is read: its class, its slot if it gives a name, its suite -/
structure Cl where
  c : Value
  slot : Option Nat
  ts : Addr → Value → Option Addr → TS
def endsBy (D : Ends) : Option Nat → Ends
  | none => D
  | some i => { nx := fun σ H => D.nx (σ.set i none) H, rt := D.rt, bk := fun σ H => D.bk (σ.set i none) H, ct := fun σ H => D.ct (σ.set i none) H }
def slotBy (σ : L2.St) (a : Addr) : Option Nat → L2.St
  | none => σ
  | some i => σ.set i (some (.ref a))
def wMix (K : PySem.W.Frag) (Wout : WX) (D : Ends) : List Cl → WX
  | [] => Wout
  | k :: r => fun cls d σ H => ∃ b, PySem.W.exmOne K cls k.c = some b ∧ (b = true → ∀ a, H a = none → k.ts a cls d (endsBy D k.slot) (slotBy σ a k.slot) H) ∧ (b = false → wMix K Wout D r cls d σ H)
inductive ClsOk (X : Cx) : List ExceptHandler → List Cl → Prop
  | nil : ClsOk X [] []
  | plain {x : Str} {c : Value} {ts : Addr → Value → Option Addr → TS} {b0 : Stmt} {suite : List Stmt} {np q : Pos} {hds : List ExceptHandler} {l : List Cl} (hc : Names X x c)
      (hsu : ∀ (a : Addr) (oe : Obj) (cls : Value) (d : Option Addr) (pn : List (Addr × Obj)), Zc cls d oe → (∃ vs, oe.data = .fields vs) → PSs (X.suite a ((a, oe) :: pn)) (b0 :: suite) (ts a cls d)) (r : ClsOk X hds l) :
      ClsOk X (.ExceptHandler (some (.Name x np)) none (b0 :: suite) q :: hds) (⟨c, none, ts⟩ :: l)
  | named {x y : Str} {c : Value} {i : Nat} {ts : Addr → Value → Option Addr → TS} {b0 : Stmt} {suite : List Stmt} {np q : Pos} {hds : List ExceptHandler} {l : List Cl} (hc : Names X x c) (hN : X.N.Nodup) (hi : X.N[i]? = some y) (hy : X.env.kindOf y = some .local)
      (hsu : ∀ (a : Addr) (oe : Obj) (cls : Value) (d : Option Addr) (pn : List (Addr × Obj)), Zc cls d oe → (∃ vs, oe.data = .fields vs) → PSs (X.suite a ((a, oe) :: pn)) (b0 :: suite) (ts a cls d)) (r : ClsOk X hds l) :
      ClsOk X (.ExceptHandler (some (.Name x np)) (some y) (b0 :: suite) q :: hds) (⟨c, some i, ts⟩ :: l)
section
variable {X : Cx} {body : List Stmt} {h0 : ExceptHandler} {hds : List ExceptHandler} {l : List Cl} {pos : Pos} {tb : WX → TS} {Wout : WX}
/-- an exception that has landed at a, the clauses left -/
theorem mix_go (hs : X.stack = X.env :: X.outer) (hf : X.env.frame = some X.env.locals) (tk : Takes X Wout) {pins : List (Addr × Obj)} {D : Ends} {B : Heap} {sI s' : Shared} {a : Addr} {σ' : L2.St} {H' : Hp} {cls : Value} {d : Option Addr} {h3 : Heap} (ok : X.Ok)
    (J : Inv X pins σ' H' sI) (nb : ∀ b o, sI.heap.get? b = some o → b ∉ frs X.stack → B.get? b = some o) (up : sI.heap.UpToSlots s'.heap) (up3 : s'.heap.UpToSlots h3) (na : H' a = none) (os : s'.os = sI.os) (ag : AllBare s'.gens)
    (nL : a ≠ X.env.locals) (nF : a ∉ X.fs) (fl3 : HandSPX.FlyingZ B (X.env :: X.outer) a (Zc cls d) h3) :
    ∀ {cs : List ExceptHandler} {m : List Cl}, ClsOk X cs m → wMix X.K Wout D m cls d σ' H' → wpAny (model X.prog X.w) X.A (handleBy (.ref a) X.env cs) (SP X pins D) X.xe { s' with heap := h3 } := by
  have J3 : Inv X pins σ' H' { s' with heap := h3 } := J.landed nb fl3.1 (up.trans up3) os ag
  obtain ⟨oe3, vs3, he3, hz3, hd3⟩ := fl3.there
  have S3 := J3.suite he3 hd3 na nL nF
  have asked : ∀ {x : Str} {c : Value} {np : Pos} {Q : Value → Shared → Prop} {E : Value → Shared → Prop}, Names X x c → Q c { s' with heap := h3 } → wpAny (model X.prog X.w) (X.A.mark (some (.ref a))) (eval (.Name x np) X.env) Q E { s' with heap := h3 } := fun {x c np Q E} hc q => by
    obtain ⟨g1, g2, g3 | ⟨g3, g4, g5⟩⟩ := hc
    · exact ld_glob (X := X.suite a ((a, oe3) :: (X.pn ++ pins))) S3 g1 g3 q g2
    · exact ld_blt (X := X.suite a ((a, oe3) :: (X.pn ++ pins))) S3 g1 g3 g4 q g5 g2
  have looks : ∀ {c : Value} {b : Bool}, PySem.W.exmOne X.K cls c = some b → _ := fun {c b} e => PySem.W.exm_one (M := model X.prog X.w) J3.kIn (show PySem.W.Looks (model X.prog X.w) h3 (typeOf (.ref a)) cls from fun A Q E s k q => wpAny_typeOf_ref (k _ _ he3) (by rw [hz3.1]; exact q)) e
  intro cs m hk
  induction hk with
  | nil =>
    intro w
    refine wpAny_handleBy_nil ?_
    obtain ⟨_, _, _, oe, vs, T, _, _, he, _, hd, h1, _⟩ := id fl3
    unfold PySem.passOn
    refine wpAny_bind (wpAny_field he hd h1 ?_)
    rw [if_neg (show ¬ ((Value.ref T == Value.none) = true) from by simp)]
    have again : wpAny (model X.prog X.w) X.A (setFlight (.ref a) X.env.frame) (fun _ s4 => wpAny (model X.prog X.w) X.A (throw (.ref a) : Sem Flow) (SP X pins D) X.xe s4) X.xe { s' with heap := h3 } := by
      rw [hf]
      exact HandSPX.setFlight_upZ fl3 fun h4 hh4 up4 => wpAny_throw (tk _ _ ⟨a, B, sI, pins, σ', H', cls, d, rfl, J, nb, (up.trans up3).trans up4, .inr (.inr (by rw [hs]; exact hh4)), na, os, ag, w⟩)
    first
      | exact wpAny_bind (wpAny_pure (wpAny_bind again))
      | exact wpAny_bind again
  | plain hc hsu _ ih =>
    rintro ⟨b, e, yes, no⟩
    refine wpAny_handleBy_cons (codeAny_handlers_test ?_) (by intro z; cases z)
    refine asked hc ((looks e).here ?_)
    cases b with
    | false => exact ih (no rfl)
    | true =>
      refine codeAny_handlers_suite (HandSPX.lands_againZ fl3 fun h4 fl4 up4 => ?_)
      have J4 : Inv X pins σ' H' { s' with heap := h4 } := J.landed nb fl4.1 ((up.trans up3).trans up4) os ag
      obtain ⟨oe4, vs4, he4, hz4, hd4⟩ := fl4.there
      refine wpAny_mono ((hsu a oe4 cls d (X.pn ++ pins) hz4 ⟨_, hd4⟩).run [] _ _ H' _ (J4.suite he4 hd4 na nL nF) (yes rfl a na)) (fun f s6 hsp => ?_) fun _ _ z => z.elim
      cases f with
      | next => obtain ⟨σ6, H6, S6, q6⟩ := hsp; exact ⟨_, _, S6.unsuite ok, q6⟩
      | brk => obtain ⟨σ6, H6, S6, q6⟩ := hsp; exact ⟨_, _, S6.unsuite ok, q6⟩
      | cont => obtain ⟨σ6, H6, S6, q6⟩ := hsp; exact ⟨_, _, S6.unsuite ok, q6⟩
      | ret u => obtain ⟨v6, σ6, H6, S6, r6, q6⟩ := hsp; exact ⟨_, _, _, S6.unsuite ok, r6, q6⟩
  | @named x y c i ts b0 suite np q hds l hc hN hi hy hsu _ ih =>
    rintro ⟨b, e, yes, no⟩
    refine wpAny_handleBy_cons (codeAny_handlers_test ?_) (by intro z; cases z)
    refine asked hc ((looks e).here ?_)
    cases b with
    | false => exact ih (no rfl)
    | true =>
      refine codeAny_handlers_suite_as (HandSPX.lands_againZ fl3 fun h4 fl4 up4 => ?_)
      have J4 : Inv X pins σ' H' { s' with heap := h4 } := J.landed nb fl4.1 ((up.trans up3).trans up4) os ag
      obtain ⟨oe4, vs4, he4, hz4, hd4⟩ := fl4.there
      refine store_ok (X := X.suite a ((a, oe4) :: (X.pn ++ pins))) (v := .ref a) (J4.suite he4 hd4 na nL nF) hN hi (.inl hy) rfl (fun s5 S5 => ?_) (.inr hy)
      refine wpAny_mono ((hsu a oe4 cls d (X.pn ++ pins) hz4 ⟨_, hd4⟩).run [] s5 _ H' _ S5 (yes rfl a na)) (fun f s6 hsp => ?_) fun _ _ z => z.elim
      have gone : ∀ {σ6 : L2.St} {H6 : Hp} {Q : Shared → Prop}, Inv (X.suite a ((a, oe4) :: (X.pn ++ pins))) [] σ6 H6 s6 → (∀ s7, Inv X pins (σ6.set i none) H6 s7 → Q s7) →
          wpAny (model X.prog X.w) X.A (do bindName X.env y .none; unbindBehindTheSuite X.env y q) (fun _ s7 => Q s7) X.xe s6 := fun {σ6 H6 Q} S6 hq => gone_ok (S6.unsuite ok) hN hi hy hq
      cases f with
      | next => obtain ⟨σ6, H6, S6, q6⟩ := hsp; exact gone S6 fun s7 J7 => ⟨_, _, J7, q6⟩
      | brk => obtain ⟨σ6, H6, S6, q6⟩ := hsp; exact gone S6 fun s7 J7 => ⟨_, _, J7, q6⟩
      | cont => obtain ⟨σ6, H6, S6, q6⟩ := hsp; exact gone S6 fun s7 J7 => ⟨_, _, J7, q6⟩
      | ret u => obtain ⟨v6, σ6, H6, S6, r6, q6⟩ := hsp; exact gone S6 fun s7 J7 => ⟨_, _, _, J7, r6, q6⟩
theorem ps_try_mix (hs : X.stack = X.env :: X.outer) (hf : X.env.frame = some X.env.locals) (tk : Takes X Wout)
    (hb : ∀ (W : WX) (pn : List (Addr × Obj)) (xe : Value → Shared → Prop), Takes (X.tr pn xe) W → PassesOwn (model X.prog X.w) X.A X.env xe → PSs (X.tr pn xe) body (tb W))
    (hh : ClsOk X (h0 :: hds) l) : PS X (.Try body (h0 :: hds) [] [] pos) (fun D σ H => tb (wMix X.K Wout D l) D σ H) := ⟨fun pins s σ H D I h => by
  have ok := I.ok
  have hfr : X.A.frames = some (X.env :: X.outer) := by rw [ok.frames, hs]
  refine wpAny_Try_except ?_
  refine wpAny_mono ((hb (wMix X.K Wout D l) (X.pn ++ pins) (fun e s1 => wpAny (model X.prog X.w) X.A (noteFrame e X.env) (fun _ s2 => wpAny (model X.prog X.w) X.A (setFlight e none) (fun _ s3 =>
    wpAny (model X.prog X.w) X.A (handleBy e X.env (h0 :: hds)) (SP X pins D) X.xe s3) X.xe s2) X.xe s1) (fun u s' air => ?_) PassesOwn.looking).run [] s σ H D (I.toTry _) h) (fun f s1 hsp => ?_) fun _ _ z => z
  · obtain ⟨a, B, sI, pins', σ', H', cls, d, rfl, J', nb, up, sky, na, os, ag, w⟩ := air
    have J : Inv X pins σ' H' sI := J'.ofTry ok
    show wpAny (model X.prog X.w) X.A (noteFrame (.ref a) X.env) _ _ _
    refine Sky.land Zc.steady hfr hf (by rw [← hs]; exact sky) fun h3 fl3 up3 => ?_
    obtain ⟨oe3, vs3, he3, hz3, hd3⟩ := fl3.there
    have nfr : a ∉ frs (X.env :: X.outer) := fun hm => by
      obtain ⟨_, o', e', hnf⟩ := fl3.2.2.1.mem hm
      rw [he3] at e'
      cases e'
      exact hnf _ hd3
    refine mix_go hs hf tk ok J nb up up3 na os ag (fun z => nfr (List.mem_filterMap.mpr ⟨X.env, List.mem_cons_self, by rw [hf, z]⟩)) (fun hm => ?_) fl3 hh w
    obtain ⟨e, he, q⟩ := List.mem_filterMap.mp hm
    exact nfr (List.mem_filterMap.mpr ⟨e, List.mem_cons_of_mem _ he, q⟩)
  · cases f with
    | next => obtain ⟨σ', H', J', q⟩ := hsp; exact wpAny_execs_nil ⟨σ', H', J'.ofTry ok, q⟩
    | brk => obtain ⟨σ', H', J', q⟩ := hsp; exact ⟨σ', H', J'.ofTry ok, q⟩
    | cont => obtain ⟨σ', H', J', q⟩ := hsp; exact ⟨σ', H', J'.ofTry ok, q⟩
    | ret u => obtain ⟨v, σ', H', J', r, q⟩ := hsp; exact ⟨v, σ', H', J'.ofTry ok, r, q⟩⟩
end
end VI
set_option Elab.async false
set_option linter.all false
set_option maxRecDepth 100000
namespace VI
open PySem PySem.Spec PyProof.Rows L2

/-! try: .. / except C as e: return (c1, e.f1, ..) -/
inductive Xp where
  | k (d : PyData)
  | fld (f : Str)
def constV : PyData → Option V
  | .none => some .non
  | .bool b => some (.bl b)
  | .int i => some (.int i)
  | .str x => some (.str x)
  | _ => none
theorem constV_rep {K : PySem.W.Frag} {η : List Addr} {H : Hp} {d : PyData} {v : V} (e : constV d = some v) : RepD K η H d v := by
  cases d <;> cases e <;> constructor
def xpW (fs : List (Str × W)) : Xp → Option W
  | .k d => some (.d d)
  | .fld f => fs.lookup f
def xpsW (fs : List (Str × W)) : List Xp → Option (List W)
  | [] => some []
  | x :: r => match xpW fs x, xpsW fs r with
    | some w, some ws => some (w :: ws)
    | _, _ => none
def XpV (us : List (Str × V)) : Xp → V → Prop
  | .k d, v => constV d = some v
  | .fld f, v => us.lookup f = some v
abbrev XpsV (us : List (Str × V)) : List Xp → List V → Prop := Paired (XpV us)
def Xp.flat : Xp → Bool
  | .k d => (constV d).isSome
  | .fld _ => true
theorem lookup_rep {K : PySem.W.Frag} {η : List Addr} {H : Hp} : ∀ {fs : List (Str × W)} {us : List (Str × V)} {f : Str} {w : W}, fs.map (·.1) = us.map (·.1) → RepWs K η H (fs.map (·.2)) (us.map (·.2)) → fs.lookup f = some w → ∃ v, us.lookup f = some v ∧ RepW K η H w v
  | [], _, _, _, _, _, e => by cases e
  | (a, w0) :: fs, [], _, _, h, _, _ => by cases h
  | (a, w0) :: fs, (b, v0) :: us, f, w, h, r, e => by
    have hab : a = b := (List.cons.inj h).1
    subst hab
    cases r with
    | cons r1 r2 =>
      rw [List.lookup_cons] at e ⊢
      cases q : f == a with
      | true =>
        rw [q] at e
        have z : w0 = w := Option.some.inj e
        subst z
        exact ⟨v0, rfl, r1⟩
      | false =>
        rw [q] at e
        exact lookup_rep (List.cons.inj h).2 r2 e
theorem xps_rep {K : PySem.W.Frag} {η : List Addr} {H : Hp} {fs : List (Str × W)} {us : List (Str × V)} (h1 : fs.map (·.1) = us.map (·.1)) (h2 : RepWs K η H (fs.map (·.2)) (us.map (·.2))) : ∀ {xs : List Xp} {ws : List W}, xs.all Xp.flat = true → xpsW fs xs = some ws → ∃ vs, XpsV us xs vs ∧ RepWs K η H ws vs
  | [], ws, _, e => by cases e; exact ⟨[], .nil, .nil⟩
  | x :: xs, ws, hf, e => by
    rw [List.all_cons, Bool.and_eq_true] at hf
    rw [xpsW] at e
    cases q : xpW fs x with
    | none => rw [q] at e; cases e
    | some w =>
      cases q2 : xpsW fs xs with
      | none => rw [q, q2] at e; cases e
      | some ws2 =>
        rw [q, q2] at e
        cases e
        obtain ⟨vs, p, r⟩ := xps_rep h1 h2 hf.2 q2
        cases x with
        | k d =>
          cases q
          obtain ⟨v, ev⟩ := Option.isSome_iff_exists.mp hf.1
          exact ⟨v :: vs, .cons ev p, .cons (.d (constV_rep ev)) r⟩
        | fld f =>
          obtain ⟨v, ev, rv⟩ := lookup_rep h1 h2 q
          exact ⟨v :: vs, .cons ev p, .cons rv r⟩
/-- what is said of the parts of such a suite: i the slot of the exception's name, Cs the classes that may come -/
structure XArgs (X : Cx) (i : Option Nat) (Cs : Addr → Prop) (es : List Expr) (xs : List Xp) : Prop where
  run : ∀ (a : Addr) (oe : Obj) (cls : Value) (d : Option Addr) (pn : List (Addr × Obj)) (C : Addr), Zc cls d oe → (∃ vs, oe.data = .fields vs) → cls = .ref C → Cs C → ∃ t : TA, PA (X.suite a ((a, oe) :: pn)) es t ∧
    ∀ (σ : L2.St) (H : Hp) (Q : List V → Hp → Prop) (dd : Addr) (us : List (Str × V)) (vs : List V), (∀ j, i = some j → σ[j]? = some (some (.ref a))) → d = some dd → H dd = some (.xd us) → XpsV us xs vs → Q vs H → t σ H Q
section
variable {X : Cx} {i : Option Nat} {Cs : Addr → Prop} {es : List Expr} {xs : List Xp}
theorem xa_nil : XArgs X i Cs [] [] := ⟨fun a oe cls d pn C _ _ _ _ => ⟨_, pa_nil, fun σ H Q dd us vs _ _ _ p q => by cases p; exact q⟩⟩
theorem xa_const {e : Expr} {d0 : PyData} {v0 : V} (hd : constV d0 = some v0) (he : ∀ (a : Addr) (oe : Obj) (pn : List (Addr × Obj)), PE (X.suite a ((a, oe) :: pn)) e (tC v0)) (hr : XArgs X i Cs es xs) (hs : starEach (e :: es) X.env = (false, eval e X.env) :: starEach es X.env := by rfl) : XArgs X i Cs (e :: es) (.k d0 :: xs) := ⟨fun a oe cls d pn C z f hC hCs => by
  obtain ⟨t, pt, ht⟩ := hr.run a oe cls d pn C z f hC hCs
  refine ⟨_, pa_cons (he a oe pn) pt hs, fun σ H Q dd us vs sl ed ex p q => ?_⟩
  cases p with
  | @cons _ v _ ws p1 p2 =>
    have ev : v0 = v := Option.some.inj (hd.symm.trans p1)
    subst ev
    exact ht σ H (fun ws' H' => Q (v0 :: ws') H') dd us ws sl ed ex p2 q⟩
theorem xa_fld {j : Nat} {x f : Str} {p1 p2 : Pos} (hT : ∀ C, Cs C → XfC X.K C ∧ PySem.W.findIn X.K (.ref C) f = some none) (hr : XArgs X (some j) Cs es xs) (hj : X.N[j]? = some x := by rfl) (hv : Vis X.env.scope x := by first | exact Or.inl rfl | exact Or.inr (Or.inl rfl) | exact Or.inr (Or.inr rfl))
    (hd : (x == ("__debug__" : Str)) = false := by decide) (hcd : (x == ("__classdict__" : Str)) = false := by decide) (hb : attributeBase (.Name x p1) f X.env (eval (.Name x p1) X.env) = eval (.Name x p1) X.env := by rfl)
    (hs : starEach (.Attribute (.Name x p1) f p2 :: es) X.env = (false, eval (.Attribute (.Name x p1) f p2) X.env) :: starEach es X.env := by rfl) : XArgs X (some j) Cs (.Attribute (.Name x p1) f p2 :: es) (.fld f :: xs) := ⟨fun a oe cls d pn C z fl hC hCs => by
  obtain ⟨t, pt, ht⟩ := hr.run a oe cls d pn C z fl hC hCs
  obtain ⟨T, no⟩ := hT C hCs
  have he : PE (X.suite a ((a, oe) :: pn)) (.Name x p1) (tVar j) := pe_var hj hv hd hcd
  refine ⟨_, pa_cons (pe_xf T no z fl he hb) pt hs, fun σ H Q dd us vs sl ed ex p q => ?_⟩
  cases p with
  | @cons _ v _ ws q1 q2 =>
    exact ⟨.ref a, sl j rfl, rfl, hC, dd, us, v, ed, ex, q1, ht σ H (fun ws' H' => Q (v :: ws') H') dd us ws sl ed ex q2 q⟩⟩
/-- the suite's reading -/
def tsX (Cs : Addr → Prop) (i : Option Nat) (xs : List Xp) : Addr → Value → Option Addr → TS := fun a cls d D σ H => ∃ (C dd : Addr) (us : List (Str × V)) (vs : List V), cls = .ref C ∧ Cs C ∧ d = some dd ∧ H dd = some (.xd us) ∧ (∀ j, i = some j → σ[j]? = some (some (.ref a))) ∧ XpsV us xs vs ∧
  vs.length ≤ sizeLine ∧ ∀ p, H p = none → D.rt (.ref p) (upd H p (.tup vs))
theorem suite_ret {k : Nat} {p1 pos : Pos} (hx : XArgs X i Cs es xs) (a : Addr) (oe : Obj) (cls : Value) (d : Option Addr) (pn : List (Addr × Obj)) (z : Zc cls d oe) (f : ∃ vs, oe.data = .fields vs) :
    PSs (X.suite a ((a, oe) :: pn)) [.Return (some (.Tuple es k p1)) pos] (tsX Cs i xs a cls d) := ⟨fun pins s σ H D I ⟨C, dd, us, vs, e1, e2, e3, e4, e5, e6, e7, e8⟩ => by
  obtain ⟨t, pt, ht⟩ := hx.run a oe cls d pn C z f e1 e2
  exact (pss_one (ps_ret (pe_tup pt))).run pins s σ H D I (ht σ H _ dd us vs e5 e3 e4 e6 ⟨e7, e8⟩)⟩
end
/-- except c (as the name at slot): return (xs) -/
structure Hd where
  c : Nat
  slot : Option Nat
  xs : List Xp
def tryHs (sub : Nat → Nat → Bool) (c : Nat) (fs : List (Str × W)) (ρ : Rho) (S : Store) : List Hd → RF
  | [] => .exc c fs ρ S
  | h :: r => if sub c h.c = true then (match xpsW fs h.xs with
    | some ws => .ret (mkT ws) S
    | none => .bad) else tryHs sub c fs ρ S r
def fTry (sub : Nat → Nat → Bool) (b : FS) (hs : List Hd) : FS := fun ρ S => match b ρ S with
  | .exc c fs ρ1 S1 => tryHs sub c fs ρ1 S1 hs
  | r => r
/-- the classes that clause h takes -/
def Takers (ct : Nat → Option Addr) (sub : Nat → Nat → Bool) (h : Nat) (C : Addr) : Prop := ∃ c, ct c = some C ∧ sub c h = true
inductive HsOk (X : Cx) (ct : Nat → Option Addr) (sub : Nat → Nat → Bool) : List ExceptHandler → List Hd → List Cl → Prop
  | nil : HsOk X ct sub [] [] []
  | plain {x : Str} {cv : Value} {c : Nat} {xs : List Xp} {es : List Expr} {k : Nat} {p1 p2 np q : Pos} {hds : List ExceptHandler} {hs : List Hd} {l : List Cl} (hc : Names X x cv) (hsub : ∀ c' C, ct c' = some C → PySem.W.exmOne X.K (.ref C) cv = some (sub c' c))
      (hz : xs.length ≤ 1000) (hfl : xs.all Xp.flat = true) (hx : XArgs X none (Takers ct sub c) es xs) (r : HsOk X ct sub hds hs l) : HsOk X ct sub (.ExceptHandler (some (.Name x np)) none [.Return (some (.Tuple es k p1)) p2] q :: hds) (⟨c, none, xs⟩ :: hs) (⟨cv, none, tsX (Takers ct sub c) none xs⟩ :: l)
  | named {x y : Str} {i : Nat} {cv : Value} {c : Nat} {xs : List Xp} {es : List Expr} {k : Nat} {p1 p2 np q : Pos} {hds : List ExceptHandler} {hs : List Hd} {l : List Cl} (hc : Names X x cv) (hN : X.N.Nodup) (hi : X.N[i]? = some y) (hy : X.env.kindOf y = some .local) (hsub : ∀ c' C, ct c' = some C → PySem.W.exmOne X.K (.ref C) cv = some (sub c' c))
      (hz : xs.length ≤ 1000) (hfl : xs.all Xp.flat = true) (hx : XArgs X (some i) (Takers ct sub c) es xs) (r : HsOk X ct sub hds hs l) : HsOk X ct sub (.ExceptHandler (some (.Name x np)) (some y) [.Return (some (.Tuple es k p1)) p2] q :: hds) (⟨c, some i, xs⟩ :: hs) (⟨cv, some i, tsX (Takers ct sub c) (some i) xs⟩ :: l)
section
variable {X : Cx} {ct : Nat → Option Addr} {sub : Nat → Nat → Bool}
theorem HsOk.cls {cs : List ExceptHandler} {hs : List Hd} {l : List Cl} (h : HsOk X ct sub cs hs l) : ClsOk X cs l := by
  induction h with
  | nil => exact .nil
  | plain hc hsub hz hfl hx r ih => exact .plain hc (fun a oe cls d pn z f => suite_ret hx a oe cls d pn z f) ih
  | named hc hN hi hy hsub hz hfl hx r ih => exact .named hc hN hi hy (fun a oe cls d pn z f => suite_ret hx a oe cls d pn z f) ih
theorem try_key {E : EX} {Wout : WX} {D : Ends} {c : Nat} {fs : List (Str × W)} {ρ : Rho} {S : Store} {η : List Addr} {H : Hp} (hE : ∀ σ cls d H, E σ cls d H → Wout cls d σ H) {cs : List ExceptHandler} {hs : List Hd} {l : List Cl} (hh : HsOk X ct sub cs hs l) (h : FinS (gx X ct) E η H (tryHs sub c fs ρ S hs) D) :
    ∀ η' H' σ C d vs, Fu η H η' H' → Rp X.K η' H' S → ERep X.K η' H' ρ σ → ct c = some C → H' d = some (.xd vs) → RepF X.K η' H' fs vs → X.N.length ≤ σ.length → wMix X.K Wout D l (.ref C) (some d) σ H' := by
  intro η' H' σ C d vs f rp er hct hd hf hσ
  have body : ∀ {k : Hd} {i : Option Nat} {σ2 : L2.St} {a : Addr}, (match xpsW fs k.xs with | some ws => RF.ret (mkT ws) S | none => .bad) = .bad ∨ True → k.xs.length ≤ 1000 → k.xs.all Xp.flat = true → sub c k.c = true → FinS (gx X ct) E η H (match xpsW fs k.xs with | some ws => .ret (mkT ws) S | none => .bad) D → (∀ j, i = some j → σ2[j]? = some (some (.ref a))) →
      ∀ D2 : Ends, D2.rt = D.rt → tsX (Takers ct sub k.c) i k.xs a (.ref C) (some d) D2 σ2 H' := by
    intro k i σ2 a _ hz hfl hs1 h2 sl D2 hD2
    cases q : xpsW fs k.xs with
    | none => rw [q] at h2; exact h2.elim
    | some ws =>
      rw [q] at h2
      obtain ⟨us, p, r⟩ := xps_rep hf.1 hf.2 hfl q
      have lz : us.length ≤ sizeLine := by
        have e1 : k.xs.length = us.length := Paired.length p
        rw [sizeLine_eq]
        omega
      refine ⟨C, d, vs, us, rfl, ⟨c, hct, hs1⟩, rfl, hd, sl, p, lz, fun pp np => ?_⟩
      rw [hD2]
      exact h2 η' _ (.ref pp) (f.trans (fu_new np)) (rp.new np) (RepWs.mk (SqT.of upd_same) (RepWs.fu (fu_new np) _ _ r))
  induction hh with
  | nil => exact hE _ _ _ _ (h η' H' σ C d vs f rp er hct hd hf)
  | plain hc hsub hz hfl hx r ih =>
    refine ⟨_, hsub c C hct, fun e a na => ?_, fun e => ih ?_⟩
    · rw [tryHs, if_pos e] at h
      exact body (.inr trivial) hz hfl e h (fun j z => by cases z) D rfl
    · rw [tryHs, if_neg (by rw [e]; decide)] at h
      exact h
  | @named x y i cv c2 xs es k p1 p2 np q hds hs l hc hN hi hy hsub hz hfl hx r ih =>
    refine ⟨_, hsub c C hct, fun e a na => ?_, fun e => ih ?_⟩
    · rw [tryHs, if_pos e] at h
      refine body (i := some i) (.inr trivial) hz hfl e h (fun j z => ?_) _ rfl
      cases z
      exact List.getElem?_set_self (Nat.lt_of_lt_of_le (List.getElem?_eq_some_iff.mp hi).1 hσ)
    · rw [tryHs, if_neg (by rw [e]; decide)] at h
      exact h
end
end VI
set_option Elab.async false
set_option linter.all false
set_option maxRecDepth 100000
namespace VI
open PySem PySem.Spec PyProof.Rows L2

/-! try as a rule of functions -/
/-- n: how many slots the def has -/
def fTryN (n : Nat) (sub : Nat → Nat → Bool) (b : FS) (hs : List Hd) : FS := fun ρ S => match b ρ S with
  | .exc c fs ρ1 S1 => if n ≤ ρ1.length then tryHs sub c fs ρ1 S1 hs else .bad
  | r => r
theorem s_try {X : Cx} {ct : Nat → Option Addr} {E : EX} {Wout : WX} {sub : Nat → Nat → Bool} {body : List Stmt} {h0 : ExceptHandler} {hds : List ExceptHandler} {hs : List Hd} {l : List Cl} {b : FS} {pos : Pos} {n : Nat}
    (tk : Takes X Wout) (hE : ∀ σ cls d H, E σ cls d H → Wout cls d σ H) (hn : X.N.length = n)
    (hb : ∀ (W : WX) (pn : List (Addr × Obj)) (xe : Value → Shared → Prop), Takes (X.tr pn xe) W → PassesOwn (model X.prog X.w) X.A X.env xe → PSs (X.tr pn xe) body (tS (gx X ct) (WE W) b))
    (hh : HsOk X ct sub (h0 :: hds) hs l) (hst : X.stack = X.env :: X.outer := by rfl) (hf : X.env.frame = some X.env.locals := by rfl) : PS X (.Try body (h0 :: hds) [] [] pos) (tS (gx X ct) E (fTryN n sub b hs)) :=
  PSw (ps_try_mix (tb := fun W => tS (gx X ct) (WE W) b) hst hf tk hb hh.cls) fun D σ H ⟨η, ρ, S, rp, er, h⟩ => by
    refine ⟨η, ρ, S, rp, er, ?_⟩
    unfold fTryN at h
    cases q : b ρ S with
    | next ρ2 S2 => rw [q] at h; exact h
    | ret u S2 => rw [q] at h; exact h
    | brk ρ2 S2 => rw [q] at h; exact h
    | cnt ρ2 S2 => rw [q] at h; exact h
    | bad => rw [q] at h; exact h
    | exc c fs ρ1 S1 =>
      rw [q] at h
      have h2 : FinS (gx X ct) E η H (if n ≤ ρ1.length then tryHs sub c fs ρ1 S1 hs else .bad) D := h
      by_cases hl : n ≤ ρ1.length
      · rw [if_pos hl] at h2
        intro η' H' σ' C d vs f rp1 er1 hct hd hfs
        exact try_key hE hh h2 η' H' σ' C d vs f rp1 er1 hct hd hfs (by rw [hn, er1.1]; exact hl)
      · rw [if_neg hl] at h2
        exact h2.elim
end VI
set_option Elab.async false
set_option linter.all false
set_option maxRecDepth 100000
namespace VI
open PySem PySem.Spec PyProof.Rows L2

/-! a module with own exception classes: what its defs are told -/
/-- class number c: the name x, its fields fs; it may be raised -/
def KRaise (P : Program) (w : World) (K : PySem.W.Frag) (mg : Str → Option Value) (base : Heap) (ct : Nat → Option Addr) (c : Nat) (x : Str) (fs : List Str) : Prop := ∃ C : Addr, ct c = some C ∧ OwnX P w K mg base 1 x C fs
/-- class number c, the name x: what an except clause finds of it -/
def KTake (K : PySem.W.Frag) (mg : Str → Option Value) (ct : Nat → Option Addr) (sub : Nat → Nat → Bool) (c : Nat) (x : Str) : Prop := ∃ cv : Value, mg x = some cv ∧ ∀ c' C, ct c' = some C → PySem.W.exmOne K (.ref C) cv = some (sub c' c)
/-- the field f of what clause c takes -/
def KField (K : PySem.W.Frag) (ct : Nat → Option Addr) (sub : Nat → Nat → Bool) (c : Nat) (f : Str) : Prop := ∀ C, Takers ct sub c C → XfC K C ∧ PySem.W.findIn K (.ref C) f = some none
section
variable {P : Program} {w : World} {K : PySem.W.Frag} {mg : Str → Option Value} {base : Heap} {ct : Nat → Option Addr} {n : Nat} {x : Str} {st : Stmt} {N ps : List Str} {g : List W → Store → R W} {b : FS}
theorem room_two {A : Around} (h : 2 ≤ n) (r : Room n A) : Room 2 A := by
  have d := r.dp
  have u := r.un
  exact { r with dp := by omega, un := by omega }
theorem takes_none {X : Cx} : Takes X (fun _ _ _ _ => False) := fun u s' x => by
  obtain ⟨a, B, sI, pins, σ, H, cls, d, e, I, nb, up, sky, na, os, ag, z⟩ := x
  exact z.elim
theorem raise_E {X : Cx} {E : EX} {W0 : WX} {c : Nat} {fs : List Str} {e : Expr} {es : List Expr} {p pos pos2 : Pos} {fa : FA} (k : KRaise X.prog X.w X.K X.mg X.base ct c x fs) (hc : X.calm = true) (tk : Takes X W0) (hE : ∀ σ cls d H, E σ cls d H → W0 cls d σ H)
    (hr : Room 2 X.A) (hn : fs.length ≤ 1000) (ha : PA X (e :: es) (tA (gx X ct) E fa)) (hg : Gl X x := by rfl) (hdb : (x == ("__debug__" : Str)) = false := by decide) (he : starEach (e :: es) X.env = (false, eval e X.env) :: starEach es X.env := by rfl) (hpl : (backTo pos (starEach es X.env)).any (·.1) = false := by rfl) :
    PS X (.Raise (some (.Call (.Name x p) (e :: es) [] pos)) none pos2) (tS (gx X ct) E (fRaise c fs fa)) := by
  obtain ⟨C, hct, O⟩ := k
  exact s_raiseC hc tk hE hct O hr hn ha hg hdb he hpl
theorem calleeX_zero (D : DefAt K mg x st) (hB : Bnd x st ps) (h : ∀ ws S, g ws S = .bad) : CalleeC (L2.CX P w) P w K mg base ct n x ps g := by
  obtain ⟨f, fd, F, m⟩ := D
  refine ⟨f, fd, ⟨fun vs H Q E h => h.1, fun A outer s H args us vs Q E _ _ _ _ _ hh => ?_⟩, m, F.kp, F.bindsN hB⟩
  obtain ⟨_, η, S, ws, rp, rr, fin⟩ := hh
  rw [h] at fin
  exact fin.elim
theorem calleeX_succ (D : DefAt K mg x st) (hB : Bnd x st ps) (hS : FnScope N ps (defScope st)) (e : ∀ ws S, g ws S = if 2 ≤ n then runX N.length b ws S else .bad)
    (h : ∀ (f : Addr) (cdv : Value) (A : Around) (outer : List Env) (s : Shared) (H : Hp) (E : XK), 2 ≤ n → Room n (A.deeper (envOfC x (defScope st) s.heap.objs.size f cdv)) → A.guards = some [] → PSs (bodyE P w K mg base N x (defScope st) f cdv A outer s H E) (defBody st) (tS ⟨K, ct⟩ (fun _ => E) b)) :
    CalleeC (L2.CX P w) P w K mg base ct (n + 1) x ps g := by
  by_cases h2 : 2 ≤ n
  · obtain ⟨f, fd, F, m⟩ := id D
    obtain ⟨oc, od, dV, kV, doc, pm, an, cdv, cv, sl, rfl, lk, hcd, _, _⟩ := F.ex
    exact ⟨f, _, fnX_of lk hcd hS fun A outer s H E r gd => ⟨b, fun ws S _ => by rw [e, if_pos h2], h f cdv A outer s H E h2 r gd⟩, m, F.kp, F.bindsN hB⟩
  · exact calleeX_zero D hB fun ws S => by rw [e, if_neg h2]
end
/-! the clauses, as the generator writes them -/
section
variable {X : Cx} {ct : Nat → Option Addr} {sub : Nat → Nat → Bool}
theorem h_plain {x : Str} {c : Nat} {xs : List Xp} {es : List Expr} {k : Nat} {p1 p2 np q : Pos} {hds : List ExceptHandler} {hs : List Hd} (kt : KTake X.K X.mg ct sub c x) (hx : XArgs X none (Takers ct sub c) es xs) (r : ∃ l, HsOk X ct sub hds hs l) (hg : Gl X x := by rfl) (hdb : (x == ("__debug__" : Str)) = false := by decide)
    (hz : xs.length ≤ 1000 := by decide) (hfl : xs.all Xp.flat = true := by rfl) : ∃ l, HsOk X ct sub (.ExceptHandler (some (.Name x np)) none [.Return (some (.Tuple es k p1)) p2] q :: hds) (⟨c, none, xs⟩ :: hs) l := by
  obtain ⟨cv, m, h⟩ := kt
  obtain ⟨l, r⟩ := r
  exact ⟨_, .plain ⟨hg, hdb, .inl m⟩ h hz hfl hx r⟩
theorem h_named {x y : Str} {i c : Nat} {xs : List Xp} {es : List Expr} {k : Nat} {p1 p2 np q : Pos} {hds : List ExceptHandler} {hs : List Hd} (kt : KTake X.K X.mg ct sub c x) (hN : X.N.Nodup) (hx : XArgs X (some i) (Takers ct sub c) es xs) (r : ∃ l, HsOk X ct sub hds hs l) (hi : X.N[i]? = some y := by rfl) (hy : X.env.kindOf y = some .local := by rfl)
    (hg : Gl X x := by rfl) (hdb : (x == ("__debug__" : Str)) = false := by decide) (hz : xs.length ≤ 1000 := by decide) (hfl : xs.all Xp.flat = true := by rfl) : ∃ l, HsOk X ct sub (.ExceptHandler (some (.Name x np)) (some y) [.Return (some (.Tuple es k p1)) p2] q :: hds) (⟨c, some i, xs⟩ :: hs) l := by
  obtain ⟨cv, m, h⟩ := kt
  obtain ⟨l, r⟩ := r
  exact ⟨_, .named ⟨hg, hdb, .inl m⟩ hN hi hy h hz hfl hx r⟩
theorem h_nil : ∃ l, HsOk X ct sub [] [] l := ⟨[], .nil⟩
theorem try_E {E : EX} {Wout : WX} {body : List Stmt} {h0 : ExceptHandler} {hds : List ExceptHandler} {hs : List Hd} {b : FS} {pos : Pos} {n : Nat} (tk : Takes X Wout) (hE : ∀ σ cls d H, E σ cls d H → Wout cls d σ H)
    (hb : ∀ (W : WX) (pn : List (Addr × Obj)) (xe : Value → Shared → Prop), Takes (X.tr pn xe) W → PassesOwn (model X.prog X.w) X.A X.env xe → PSs (X.tr pn xe) body (tS (gx X ct) (WE W) b))
    (hh : ∃ l, HsOk X ct sub (h0 :: hds) hs l) (hn : X.N.length = n := by rfl) (hst : X.stack = X.env :: X.outer := by rfl) (hf : X.env.frame = some X.env.locals := by rfl) : PS X (.Try body (h0 :: hds) [] [] pos) (tS (gx X ct) E (fTryN n sub b hs)) := by
  obtain ⟨l, hh⟩ := hh
  exact s_try tk hE hn hb hh hst hf
end
end VI
set_option Elab.async false
set_option linter.all false
set_option maxRecDepth 100000
namespace VI
open PySem PySem.Spec PyProof.Rows L2

/-! what the head's run tells of a module's constants and classes -/
/-- a class over ValueError with an __init__ of its own -/
def oexB (K : PySem.W.Frag) (C : Addr) : Bool := (match K.lookup C with
  | some ⟨.type "type", _, .cls cd, sl⟩ => (match cd.mro, sl.toList with
    | .ref C' :: bm, [_, _, _, _, some (.builtin n), _] => C' == C && n == "ValueError.__new__" && cd.hasDict && !cd.hasDel && PySem.HandSPX.refsVE bm
    | _, _ => false)
  | _ => false) && (decide (PySem.W.findIn K (.ref C) "__setattr__" = some (some (.builtin "object.__setattr__"))) && (decide (PySem.W.subIn K (.ref C) (.type "BaseException") = some true) && (decide (PySem.W.typeIn K (.ref C) = some (.type "type")) && PySem.W.keepIn K (.ref C))))
theorem oexB_ok {K : PySem.W.Frag} {C : Addr} (h : oexB K C = true) : OexC K C := by
  obtain ⟨q, h⟩ := He.ba h
  obtain ⟨h2, h⟩ := He.ba h
  obtain ⟨h3, h⟩ := He.ba h
  obtain ⟨h4, h5⟩ := He.ba h
  refine ⟨?_, of_decide_eq_true h2, of_decide_eq_true h3, of_decide_eq_true h4, h5⟩
  split at q
  · rename_i dd cd sl ho
    split at q
    · rename_i C' bm k0 k1 k2 k3 n k5 hm hs
      simp only [Bool.and_eq_true, beq_iff_eq, Bool.not_eq_true'] at q
      obtain ⟨⟨⟨⟨rfl, rfl⟩, hdct⟩, hdel⟩, ht⟩ := q
      obtain ⟨nm, bs, mro, ns, qn, hd, sn, sub, ab, col, del⟩ := cd
      dsimp only at hm hdel hdct
      subst hm hdel hdct
      have hsl : sl = #[k0, k1, k2, k3, some (.builtin "ValueError.__new__"), k5] := by
        obtain ⟨l⟩ := sl
        simp only at hs
        rw [hs]
      subst hsl
      exact ⟨_, _, _, _, _, _, _, _, _, _, _, _, _, _, _, ho, ht⟩
    · cases q
  · cases q
/-- what a module's name stands for -/
def mgAt (K : PySem.W.Frag) (x : Str) : Option Value := match PySem.W.nsIn K mainGlobals x with
  | some (some v) => some v
  | _ => none
mutual
/-- d stands for u, as far as K tells -/
def repB (K : PySem.W.Frag) : PyData → Value → Bool
  | .none, .none => true
  | .bool b, .bool c => b == c
  | .int i, .int j _ => decide (i = j)
  | .str x, .str y _ => decide (x = y)
  | .tuple ds, .ref a => (match K.lookup a with
    | some ⟨.type "tuple", _, .seq its _, _⟩ => decide (its.size ≤ sizeLine) && repsB K ds its.toList
    | _ => false)
  | _, _ => false
def repsB (K : PySem.W.Frag) : List PyData → List Value → Bool
  | [], [] => true
  | d :: ds, u :: us => repB K d u && repsB K ds us
  | _, _ => false
end
mutual
theorem repB_ok {K : PySem.W.Frag} : ∀ (d : PyData) (u : Value), repB K d u = true → ∃ v, RelV v u ∧ ∀ η H, RepD K η H d v
  | .none, u, h => by
    cases u <;> first | exact ⟨.non, rfl, fun _ _ => .none⟩ | (simp [repB] at h)
  | .bool b, u, h => by
    cases u with
    | bool c => exact ⟨.bl b, by rw [repB, beq_iff_eq] at h; rw [h]; rfl, fun _ _ => .bool b⟩
    | _ => simp [repB] at h
  | .int i, u, h => by
    cases u with
    | int j t => exact ⟨.int i, by rw [repB, decide_eq_true_eq] at h; exact ⟨t, by rw [h]⟩, fun _ _ => .int i⟩
    | _ => simp [repB] at h
  | .str x, u, h => by
    cases u with
    | str y t => exact ⟨.str x, by rw [repB, decide_eq_true_eq] at h; exact ⟨t, by rw [h]⟩, fun _ _ => .str x⟩
    | _ => simp [repB] at h
  | .tuple ds, u, h => by
    cases u with
    | ref a =>
      rw [repB] at h
      split at h
      · rename_i dd its n sl ho
        obtain ⟨h1, h2⟩ := He.ba h
        obtain ⟨vs, r, rd⟩ := repsB_ok ds _ h2
        exact ⟨.ref a, rfl, fun η H => .tuple (.inr ⟨_, its, n, ho, rfl, rfl, of_decide_eq_true h1, r⟩) (rd η H)⟩
      · cases h
    | _ => simp [repB] at h
  | .list _, u, h => by cases u <;> simp [repB] at h
theorem repsB_ok {K : PySem.W.Frag} : ∀ (ds : List PyData) (us : List Value), repsB K ds us = true → ∃ vs, Vals vs us ∧ ∀ η H, RepDs K η H ds vs
  | [], [], _ => ⟨[], .nil, fun _ _ => .nil⟩
  | [], _ :: _, h => by simp [repsB] at h
  | _ :: _, [], h => by simp [repsB] at h
  | d :: ds, u :: us, h => by
    rw [repsB] at h
    obtain ⟨h1, h2⟩ := He.ba h
    obtain ⟨v, r, rd⟩ := repB_ok d u h1
    obtain ⟨vs, r2, rd2⟩ := repsB_ok ds us h2
    exact ⟨v :: vs, .cons r r2, fun η H => .cons (rd η H) (rd2 η H)⟩
end
def conB (K : PySem.W.Frag) (x : Str) (d : PyData) : Bool := match PySem.W.nsIn K mainGlobals x with
  | some (some u) => repB K d u
  | _ => false
theorem conB_ok {K : PySem.W.Frag} {h : Heap} {mg : Str → Option Value} {x : Str} {d : PyData} (X : K.In h) (G : h.Ns mainGlobals mg) (c : conB K x d = true) : KCon K mg x d := by
  unfold conB at c
  split at c
  · rename_i u e
    obtain ⟨v, r, rd⟩ := repB_ok d u c
    exact ⟨v, u, PySem.W.mg_of X G e, r, rd⟩
  · cases c
/-- the hook of the library, and one's own look at K -/
def hookV (n : Nat) (fa : List He.Fa) (fn : List He.DefD) (ex : PySem.W.Frag → Bool) : PySem.W.Hook where
  α := He.AlD × Bool
  obs := fun s => (He.obsDG n fa fn s.heap.get?, ex (He.frG s.heap.get? (He.asD s.heap.get? n)))
  val := fun _ => (He.valD fn, true)
  says := fun _ h => ∃ K : PySem.W.Frag, K.In h ∧ He.SaysD fa fn K ∧ ex K = true
  of := fun _ _ e => ⟨_, He.frG_in, congrArg (fun z : He.AlD × Bool => z.1) e, congrArg (fun z : He.AlD × Bool => z.2) e⟩
  keeps := fun _ _ _ ⟨K, hK, c⟩ k => ⟨K, PySem.W.Frag.In.keeps hK k, c⟩
def obsV (n : Nat) (fa : List He.Fa) (fn : List He.DefD) (ex : PySem.W.Frag → Bool) (g : Addr → Option Obj) : He.AlD × Bool := (He.obsDG n fa fn g, ex (He.frG g (He.asD g n)))
theorem obsV_eq {n : Nat} {fa : List He.Fa} {fn : List He.DefD} {ex : PySem.W.Frag → Bool} {g : Addr → Option Obj} {s : Shared} (h : ∀ a, g a = s.heap.get? a) : obsV n fa fn ex g = (hookV n fa fn ex).obs s := by
  have e : g = s.heap.get? := funext h
  rw [e] <;> rfl
end VI
set_option Elab.async false
set_option linter.all false
set_option maxRecDepth 100000
namespace VI
open PySem PySem.Spec PyProof.Rows L2

/-! from the head's facts to what the defs are told -/
theorem all_at {l : List Bool} (h : l.all id = true) (i : Nat) {b : Bool} (e : l[i]? = some b := by rfl) : b = true := List.all_eq_true.mp h b (List.mem_of_getElem? e)
section
variable {K : PySem.W.Frag} {h : Heap} {mg : Str → Option Value} {fas : List He.Fa} {fns : List He.DefD} {P : Program} {w : World} {base : Heap}
theorem defAt_of {x : Str} {st : Stmt} (X : K.In h) (G : h.Ns mainGlobals mg) (c : (He.Fa.glo x).ok K = true) (F : ∃ fd, FunD K x x (defArgs st) (defBody st) (defScope st) [] [] (He.ga K x) fd) : DefAt K mg x st := by
  obtain ⟨fd, F⟩ := F
  exact ⟨_, fd, F, He.glo_ok X G c⟩
theorem ownX_one {x qual f1 p1 : Str} {pr : Arguments} {body : List Stmt} {sc : Scope} (X : K.In h) (G : h.Ns mainGlobals mg) (c : (He.Fa.glo x).ok K = true) (T : oexB K (He.ga K x) = true) (m : (He.Fa.meth x "__init__").ok K = true) (ty : decide (PySem.W.typeIn K (.ref (He.ma K (He.ga K x) "__init__")) = some (.type "function")) = true)
    (n1 : (He.Fa.noat x f1).ok K = true) (F : ∃ fd, FunD K "__init__" qual pr body sc [] [] (He.ma K (He.ga K x) "__init__") fd) (hS : FnScope ["self", p1] ["self", p1] sc)
    (hB : ∀ (kV doc pm : Value) (an : Option Addr) (cdv ct : Value) (us : List Value), us.length = 2 → bindArgs (PySem.W.fnOf "__init__" qual pr body sc .none kV doc pm an cdv ct) ⟨us, []⟩ = pure ((["self", p1] : List Str).zip us))
    (hb : ∀ (cdv : Value) (A : Around) (outer : List Env) (s : Shared) (H : Hp) (E : XK), PSs (cxOf CX0 P w K mg base ["self", p1] qual sc (He.ma K (He.ga K x) "__init__") cdv A outer s H E) body (tOst K f1 (tVar 0) (tVar 1))) : OwnX P w K mg base 1 x (He.ga K x) [f1] := by
  obtain ⟨fd, F⟩ := F
  exact ⟨He.glo_ok X G c, oexB_ok T, _, fd, _, (He.meth_ok m).at_, of_decide_eq_true ty, init_one (k := 0) F hS (oexB_ok T) (He.noat_ok n1) hb, F.bindsN hB⟩
theorem ownX_two {x qual f1 f2 p1 p2 : Str} {pr : Arguments} {body : List Stmt} {sc : Scope} (X : K.In h) (G : h.Ns mainGlobals mg) (c : (He.Fa.glo x).ok K = true) (T : oexB K (He.ga K x) = true) (m : (He.Fa.meth x "__init__").ok K = true) (ty : decide (PySem.W.typeIn K (.ref (He.ma K (He.ga K x) "__init__")) = some (.type "function")) = true)
    (n1 : (He.Fa.noat x f1).ok K = true) (n2 : (He.Fa.noat x f2).ok K = true) (F : ∃ fd, FunD K "__init__" qual pr body sc [] [] (He.ma K (He.ga K x) "__init__") fd) (hS : FnScope ["self", p1, p2] ["self", p1, p2] sc)
    (hB : ∀ (kV doc pm : Value) (an : Option Addr) (cdv ct : Value) (us : List Value), us.length = 3 → bindArgs (PySem.W.fnOf "__init__" qual pr body sc .none kV doc pm an cdv ct) ⟨us, []⟩ = pure ((["self", p1, p2] : List Str).zip us))
    (hb : ∀ (cdv : Value) (A : Around) (outer : List Env) (s : Shared) (H : Hp) (E : XK), PSs (cxOf CX0 P w K mg base ["self", p1, p2] qual sc (He.ma K (He.ga K x) "__init__") cdv A outer s H E) body (tSeq (tOst K f1 (tVar 0) (tVar 1)) (tOst K f2 (tVar 0) (tVar 2)))) : OwnX P w K mg base 1 x (He.ga K x) [f1, f2] := by
  obtain ⟨fd, F⟩ := F
  exact ⟨He.glo_ok X G c, oexB_ok T, _, fd, _, (He.meth_ok m).at_, of_decide_eq_true ty, init_two (k := 0) F hS (oexB_ok T) (He.noat_ok n1) (He.noat_ok n2) hb, F.bindsN hB⟩
end
end VI
set_option Elab.async false
set_option linter.all false
set_option maxRecDepth 100000
namespace VI
open PySem PySem.Spec PyProof.Rows L2

/-! the end, the classes' numbers told by K -/
section
variable {k : Nat} {x : Str} {g : List W → Store → R W}
theorem walk_K {l : PySem.W.OpenLaw} {n : Nat} {q : Program} {loose : List Str} {XP : (Str → Option Value) → Heap → Prop} {YP : World → Heap → Prop} {d : DefRec}
    (hn : l.most = some n) (hn2 : n ≤ sizeLine) (hdf : d.params.defaults = []) (hr : Room k callerA)
    (F : ∀ (w : World) (mg : Str → Option Value) (fa : Addr) (h : Heap), YP w h → h.Ns mainGlobals mg → mg d.name = some (.ref fa) →
      ∃ (K : PySem.W.Frag) (ct : Nat → Option Addr) (fd : FuncData), K.In h ∧ (∀ (s : Shared) (u : Value), BindsTo s fd ⟨[u], []⟩ [(x, u)]) ∧
        ∀ base : Heap, K.In base → base.Ns mainGlobals mg → FnG l.prog w K mg base CX0 k fa fd [x] (spG ⟨K, ct⟩ 1 g))
    (good : ∀ ns : List Int, ns.length ≤ n → (∀ z ∈ ns, Builtin.Int.intBits z ≤ 1048576) → ∃ S', g [scriptW ns] [] = .ok (.d (.bool true)) S') :
    PySem.W.WalkO q loose XP YP l.row.toRowW d [] (fun f vs => PySem.call f vs) :=
  Att.attach_callB hn hdf fun w s₀ s1 mg mb fa o pm cd doc a vs ns G Y ho hd hcd hmg hobj hints hlen hbits hg => by
    obtain ⟨K, ct, fd, KX, hb, hF⟩ := F w mg fa _ Y G.T.g hmg
    exact ask KX G.T.g G.T.b G.T.builtins G.T.nolimit hg hobj hints (Nat.le_trans hlen hn2) hr hF hb (good ns hlen hbits)
/-- the def that is the law, by its body -/
theorem law_of {P : Program} {w : World} {K : PySem.W.Frag} {mg : Str → Option Value} {ct : Nat → Option Addr} {nm : Str} {st : Stmt} {fa : Addr} {N : List Str} {n : Nat} {b : FS} (D : DefAt K mg nm st) (hB : Bnd nm st [x]) (hmg : mg nm = some (.ref fa)) (hS : FnScope N [x] (defScope st)) (e : ∀ ws S, g ws S = runB N.length b ws S)
    (h : ∀ (base : Heap) (f : Addr) (cdv : Value) (A : Around) (outer : List Env) (s : Shared) (H : Hp) (E : XK), Room n (A.deeper (envOfC nm (defScope st) s.heap.objs.size f cdv)) → A.guards = some [] → PSs (bodyX P w K mg base N nm (defScope st) f cdv A outer s H E) (defBody st) (tS ⟨K, ct⟩ NX b)) :
    ∃ fd : FuncData, (∀ (s : Shared) (u : Value), BindsTo s fd ⟨[u], []⟩ [(x, u)]) ∧ ∀ base : Heap, FnG P w K mg base CX0 (n + 1) fa fd [x] (spG ⟨K, ct⟩ 1 g) := by
  obtain ⟨f, fd, F, m⟩ := D
  obtain rfl : f = fa := by
    have e := m.symm.trans hmg
    cases e
    rfl
  have b := FunD.bindsA (ps := [x]) F hB
  exact ⟨fd, fun s u => b s [u] rfl, fun base => FunD.okG F hS fun cdv A outer s H E r gd => ⟨_, fun ws S _ => e ws S, h base f cdv A outer s H E r gd⟩⟩
end
end VI
set_option Elab.async false
set_option linter.all false
set_option maxRecDepth 100000
namespace VI
open PySem PySem.Spec PyProof.Rows L2

/-! int(x), x a text too -/
def gIntA (ws : List W) (S : Store) : O := match ws with
  | [.d (.str a)] => match PySem.intText? a with
    | some n => if a.length ≤ 640 then some (.d (.int n), S) else none
    | none => none
  | ws => gInt ws S
theorem c_intA {X : Cx} {ct : Nat → Option Addr} : CallR X (.type "int") (SimL X ct gIntA) := CallR.fit (CallR.or (c_int (X := X) (ct := ct)) call_int_str) fun xs H Q ⟨η, S, ws, rp, rr, q⟩ => by
  unfold gIntA at q
  split at q
  · rename_i a
    obtain ⟨v, rfl, r⟩ := repWs1 rr
    cases e : PySem.intText? a with
    | none => rw [e] at q; exact q.elim
    | some n =>
      rw [e] at q
      have q2 : FinO (gx X ct) η H (if a.length ≤ 640 then some (.d (.int n), S) else none) Q := q
      by_cases hl : a.length ≤ 640
      · rw [if_pos hl] at q2
        cases r with | d r => cases r; exact .inr ⟨a, n, rfl, e, hl, same_val rp (.d (.int _)) q2⟩
      · rw [if_neg hl] at q2
        exact q2.elim
  · exact .inl ⟨η, S, _, rp, rr, q⟩
end VI
set_option Elab.async false
set_option linter.all false
set_option maxRecDepth 100000
namespace VI
open PySem PySem.Spec PyProof.Rows L2

theorem exoT_ok {P : Program} {w : World} {H : Hp} {h : Heap} {e C t1 : Addr} {d : Option Addr} (hg : h.get? e = some ⟨.ref C, d, .fields #[.ref t1, .none, .none, .none, .bool false, .none], #[]⟩) : ObjOk P w H h e (exoT e C d t1) :=
  ⟨hg, ⟨_, hg⟩, fun h1 h2 a b => b _ a⟩
theorem exoT_at {P : Program} {w : World} {H : Hp} {h : Heap} {e C t1 : Addr} {d : Option Addr} (hk : HOk P w H h) (he : H e = some (exoT e C d t1)) : h.get? e = some ⟨.ref C, d, .fields #[.ref t1, .none, .none, .none, .bool false, .none], #[]⟩ := (hk e _ he).1
theorem exoT_own {e C t1 x : Addr} {d : Option Addr} : exoT e C d t1 ≠ .own x := fun h => by unfold exoT at h; cases h
theorem exoT_tup {e C t1 : Addr} {d : Option Addr} {xs : List V} : exoT e C d t1 ≠ .tup xs := fun h => by unfold exoT at h; cases h
theorem exoT_frz {e C t1 : Addr} {d : Option Addr} {o : Obj} {v : HO} : exoT e C d t1 ≠ .frz o v := fun h => by unfold exoT at h; cases h
theorem exoT_tbl {e C t1 : Addr} {d : Option Addr} {ps : Array Value} : exoT e C d t1 ≠ .tbl ps := fun h => by unfold exoT at h; cases h
theorem at_ne' {H : Hp} {a b : Addr} {o u : HO} (e : H a = some o) (q : H b = some u) (h : o ≠ u) : b ≠ a := fun z => by
  subst z
  rw [e] at q
  cases q
  exact h rfl
theorem ost_newT {X : Cx} {pins : List (Addr × Obj)} {σ : L2.St} {H : Hp} {s : Shared} {a C t1 : Addr} {f : Str} {y : V} {u : Value} {Q : Unit → Shared → Prop} {E : Value → Shared → Prop} {A : Around} (T : OexC X.K C) (I : L2.Inv X pins σ H s) (e : H a = some (exoT a C none t1)) (hno : PySem.W.findIn X.K (.ref C) f = some none) (ry : L2.RelV y u)
    (h : ∀ (dx : Addr) (s' : Shared), H dx = none → dx ≠ a → L2.Inv X pins σ (upd (upd H dx (exd dx [(f, y)])) a (exoT a C (some dx) t1)) s' → Q () s') : wpAny (model X.prog X.w) A (setAttr (.ref a) f u) Q E s := by
  obtain ⟨nm, q, N, bs, bm, sn, sub, ab, col, dd, k0, k1, k2, k3, k5, hC, hbm⟩ := T.cls
  have ho := exoT_at I.hok e
  obtain ⟨hp, g, d, t, os⟩ := s
  obtain ⟨cd, hcl, c1, c2⟩ : ∃ cd, PySem.W.clsIn X.K C = some cd ∧ PySem.HandSPX.refsVE cd.mro = true ∧ cd.hasDict = true := ⟨_, by unfold PySem.W.clsIn; rw [hC], hbm, rfl⟩
  refine PySem.W.set_plain (od := none) I.kIn ⟨ho, rfl, rfl, trivial⟩ T.sa (PySem.HandSPX.exc_osa I.kIn ho hcl c1 c2 hno fun h' tk' dx k dn dne hx hn => ?_)
  have hnd : H dx = none := I.hok.fresh dn
  have nd : ∀ {b : Addr} {o : Obj}, hp.get? b = some o → b ≠ dx := fun q => Nat.ne_of_lt (Nat.lt_of_lt_of_le (Heap.lt_size q) dn)
  have na : ∀ {b : Addr}, H b = none → b ≠ a := fun n z => by rw [z, e] at n; cases n
  have Un1 : Un X.fs [] H (upd (upd H dx (exd dx [(f, y)])) a (exoT a C (some dx) t1)) hp h' := by
    refine { keep := fun b o q n x x_1 => k b o (na n) q, slot := fun b o q n x x_1 => ⟨o.slots, k b o (na n) q⟩, free := fun b o q n x => ?_, there := fun b o q x => ?_, tups := fun b xs q => ?_, frzs := fun b o v q => ?_, tbls := fun b ps q => ⟨#[], ?_⟩ }
    · rw [upd_ne (na n), upd_ne (nd q)]; exact n
    · by_cases hb : b = a
      · subst hb; exact ⟨_, hx⟩
      · exact ⟨o, k b o hb q⟩
    · rw [upd_ne (at_ne' e q exoT_tup), upd_ne (ne_of_none q hnd)]; exact q
    · rw [upd_ne (at_ne' e q exoT_frz), upd_ne (ne_of_none q hnd)]; exact q
    · rw [upd_ne (at_ne' e q exoT_tbl), upd_ne (ne_of_none q hnd), Array.append_empty]; exact q
  refine h dx ⟨h', g, d, tk', os⟩ hnd dne (L2.Inv.un I Un1 fun b o q => ?_)
  by_cases hb : b = a
  · subst hb
    rw [upd_same] at q
    cases q
    exact exoT_ok hx
  · rw [upd_ne hb] at q
    by_cases hd : b = dx
    · subst hd
      rw [upd_same] at q
      cases q
      exact exd_ok hn (relO_put ry fun g => trivial)
    · rw [upd_ne hd] at q
      refine ObjOk.stay (I.hok b o q) (fun c v hc z => k c v ?_ z) (fun c hc => ?_) fun c xs hc => ?_
      · rcases hc with hc | hc
        · rw [hc]; exact hb
        · exact at_ne' e hc exoT_own
      · rw [upd_ne (at_ne' e hc exoT_own), upd_ne (ne_of_none hc hnd)]; exact hc
      · rw [upd_ne (at_ne' e hc exoT_tup), upd_ne (ne_of_none hc hnd)]; exact hc
def tOstT (K : PySem.W.Frag) (f : Str) (to te : TE) : TS := fun D σ H => te σ H fun y H1 => to σ H1 fun x H2 => ∃ (a C t1 : Addr), x = .ref a ∧ OexC K C ∧ PySem.W.findIn K (.ref C) f = some none ∧ H2 a = some (exoT a C none t1) ∧ ∀ dx, H2 dx = none → dx ≠ a → D.nx σ (upd (upd H2 dx (exd dx [(f, y)])) a (exoT a C (some dx) t1))
theorem ps_ostT {X : Cx} {o e : Expr} {to te : TE} {f : Str} {p' pos : Pos} (ho : PE X o to) (he : PE X e te) (hs : swapsWith e (some (o.Attribute f p')) pos.line X.env = pure false := by rfl) : PS X (.Assign [o.Attribute f p'] e pos) (tOstT X.K f to te) := by
  refine ⟨fun pins s σ H D I h => ?_⟩
  refine plainObj_wpAny_Assign_Attribute (thn (he.run pins s σ H _ I h) fun v s1 x => ?_) hs
  obtain ⟨y, H1, I1, r1, q1⟩ := x
  refine thn (ho.run pins s1 σ H1 _ I1 q1) fun u s2 x => ?_
  obtain ⟨x, H2, I2, r2, a, C, t1, rfl, T, hno, ea, q⟩ := x
  cases (show u = Value.ref a from r2)
  exact ost_newT T I2 ea hno r1 fun dx s' n ne J => ⟨σ, _, J, q dx n ne⟩
/-- __init__ of a class with one field -/
def spInitT (C : Addr) (f : Str) : Sp := fun vs H Q _ => ∃ (a t1 : Addr) (y : V), vs = [.ref a, y] ∧ H a = some (exoT a C none t1) ∧ ∀ dx, H dx = none → dx ≠ a → Q .non (upd (upd H dx (exd dx [(f, y)])) a (exoT a C (some dx) t1))
section
variable {P : Program} {w : World} {K : PySem.W.Frag} {mg : Str → Option Value} {base : Heap} {k : Nat} {C fI : Addr} {fd : FuncData} {qual : Str} {pr : Arguments} {body : List Stmt} {sc : Scope} {f1 p1 : Str}
theorem init_oneT (F : FunD K "__init__" qual pr body sc [] [] fI fd) (hS : FnScope ["self", p1] ["self", p1] sc) (T : OexC K C) (no1 : PySem.W.findIn K (.ref C) f1 = some none)
    (hb : ∀ (cdv : Value) (A : Around) (outer : List Env) (s : Shared) (H : Hp) (E : XK), PSs (cxOf CX0 P w K mg base ["self", p1] qual sc fI cdv A outer s H E) body (tOstT K f1 (tVar 0) (tVar 1))) :
    FnOk P w K mg base CX0 (k + 1) fI fd ["self", p1] (spInitT C f1) := by
  refine FunD.ok F hS (fun vs H Q E h => ?_) fun cdv A outer s H vs Q E hr h => ?_
  · obtain ⟨a, t1, y, rfl, _⟩ := h
    rfl
  · obtain ⟨a, t1, y, rfl, ha, q⟩ := h
    refine ⟨_, hb cdv A outer s H E, ?_⟩
    exact ⟨y, rfl, .ref a, rfl, a, C, t1, rfl, T, no1, ha, fun dx hd ne => q dx hd ne⟩
end
structure OwnX1 (P : Program) (w : World) (K : PySem.W.Frag) (mg : Str → Option Value) (base : Heap) (k : Nat) (x : Str) (C : Addr) (f : Str) : Prop where
  at_ : mg x = some (.ref C)
  T : OexC K C
  init : ∃ (fI : Addr) (fd : FuncData) (ps : List Str), PySem.W.findIn K (.ref C) "__init__" = some (some (.ref fI)) ∧ PySem.W.typeIn K (.ref fI) = some (.type "function") ∧ FnOk P w K mg base CX0 k fI fd ps (spInitT C f) ∧ Binds K fd ps []
theorem pe_own1 {X : Cx} {k : Nat} {x f : Str} {C : Addr} {e : Expr} {ta : TA} {p pos : Pos} (O : OwnX1 X.prog X.w X.K X.mg X.base k x C f) (hr : Room (k + 1) X.A) (ha : PA X [e] ta) (hg : Gl X x) (hdb : (x == ("__debug__" : Str)) = false := by decide)
    (he : starEach [e] X.env = (false, eval e X.env) :: starEach [] X.env := by rfl) (hpl : (backTo pos (starEach [] X.env)).any (·.1) = false := by rfl) :
    PE X (.Call (.Name x p) [e] [] pos) (fun σ H Q => ta σ H fun vs H1 => ∃ y, vs = [y] ∧ ∀ a t1 dx, H1 a = none → H1 t1 = none → H1 dx = none → a ≠ t1 → dx ≠ a → dx ≠ t1 → Q (.ref a) (upd (upd (upd (upd H1 t1 (.tup [y])) a (exoT a C none t1)) dx (exd dx [(f, y)])) a (exoT a C (some dx) t1))) := by
  obtain ⟨m, T, fI, fd, ps, iC, tI, F1, hb⟩ := O
  refine ⟨fun pins s σ H Q I h => ?_⟩
  obtain ⟨nm, q, N, bs, bm, sn, sub, ab, col, dd, k0, k1, k2, k3, k5, hC, hbm⟩ := T.cls
  refine wpAny_Call_Name_kw (ld_glob I hg m ?_ hdb)
  refine PySem.W.callWith_K (h₀ := X.base) I.ok.mod.kin T.kC (thn (ha.run pos pins s σ H _ I h) fun us s1 ⟨vs, H1, I1, rel, y, ey, h1⟩ => ⟨I1.kIn, ?_⟩) he hpl
  subst ey
  obtain ⟨u, rfl, ru⟩ := vals1 rel
  show wpAny _ _ (call (.ref C) [u]) _ _ _
  obtain ⟨hp, g, dr, tk, os⟩ := s1
  have n0 : H1 hp.objs.size = none := I1.hok.fresh (Nat.le_refl _)
  have hsz : hp.objs.size ≤ hp.objs.size + 1 := Nat.le_succ _
  have n1 : H1 (hp.objs.size + 1) = none := I1.hok.fresh hsz
  have ne : hp.objs.size + 1 ≠ hp.objs.size := by omega
  have g0 : ((hp.push (PySem.W.kdv_tup [u]))).get? hp.objs.size = some (PySem.W.kdv_tup [u]) := Heap.get?_push_size _ rfl
  have I2 : Inv X pins σ (upd H1 hp.objs.size (.tup [y])) ⟨hp.push (PySem.W.kdv_tup [u]), g, dr, tk, os⟩ :=
    I1.laid (t' := tk) (a := hp.objs.size) (o := .tup [y]) (h' := hp.push (PySem.W.kdv_tup [u])) (fun b o e => Heap.get?_push_of_some _ e) (Nat.le_refl _) ⟨by rw [sizeLine_eq, List.length_singleton]; decide, [u], .cons ru .nil, ⟨_, g0, rfl, 0, by simp⟩⟩
  have gs : (hp.push (PySem.W.kdv_tup [u])).objs.size = hp.objs.size + 1 := by
    show (hp.objs.push _).size = _
    exact Array.size_push ..
  have hget : ((hp.push (PySem.W.kdv_tup [u])).push (PySem.HandSPX.excO C hp.objs.size)).get? (hp.objs.size + 1) = some (PySem.HandSPX.excO C hp.objs.size) := by rw [← gs]; exact Heap.get?_push_size _ rfl
  have I3 : Inv X pins σ (upd (upd H1 hp.objs.size (.tup [y])) (hp.objs.size + 1) (exoT (hp.objs.size + 1) C none hp.objs.size)) ⟨(hp.push (PySem.W.kdv_tup [u])).push (PySem.HandSPX.excO C hp.objs.size), g, dr, tk, os⟩ :=
    I2.laid (t' := tk) (a := hp.objs.size + 1) (o := exoT (hp.objs.size + 1) C none hp.objs.size) (h' := (hp.push (PySem.W.kdv_tup [u])).push (PySem.HandSPX.excO C hp.objs.size)) (fun b o e => Heap.get?_push_of_some _ e) (by show (hp.push _).objs.size ≤ _; rw [gs]; omega) (exoT_ok hget)
  have r2 : Vals [V.ref (hp.objs.size + 1), y] [Value.ref (hp.objs.size + 1), u] := .cons rfl (.cons ru .nil)
  let Q2 : VK := fun v H' => v = .non ∧ Q (.ref (hp.objs.size + 1)) H'
  have hq : spInitT C f [V.ref (hp.objs.size + 1), y] (upd (upd H1 hp.objs.size (.tup [y])) (hp.objs.size + 1) (exoT (hp.objs.size + 1) C none hp.objs.size)) Q2 (fun _ _ _ => False) := by
    refine ⟨_, _, _, rfl, upd_same, fun dx hd nd => ⟨rfl, ?_⟩⟩
    rw [upd_ne nd] at hd
    have nt : dx ≠ hp.objs.size := fun z => by subst z; rw [upd_same] at hd; cases hd
    rw [upd_ne nt] at hd
    exact h1 _ _ dx n1 n0 hd ne nd nt
  have hl : ([Value.ref (hp.objs.size + 1)] ++ [u]).length = ps.length := by
    have e := F1.len _ _ _ _ hq
    simpa using e
  have bnd := hb _ [Value.ref (hp.objs.size + 1), u] I3.kIn hl
  rw [List.append_nil] at bnd
  refine wpAny_call (PySem.HandSPX.call_own F.excBase_ValueError (fun Y => PySem.HandSPX.refsVE_contains Y bm hbm) (I1.kIn _ _ hC) (PySem.W.looks_findIn I1.kIn iC) (fun self => PySem.W.bind_fn I1.kIn self tI) (by rw [sizeLine_eq, List.length_singleton]; decide)
    (codeAny_mono (F1.run _ X.stack _ _ ⟨[Value.ref (hp.objs.size + 1), u], []⟩ [Value.ref (hp.objs.size + 1), u] _ _ (fun _ _ _ => False) (hr.make C [u] []) (I3.env0.make C [u] []) bnd r2 hq) fun r s' hq' => ?_))
  cases r with
  | error er => exact pass0 pins σ _ _ er s' I3 hq'
  | ok fl =>
    cases fl with
    | ret u2 =>
      obtain ⟨v, H2, I4, rv, ev, q2⟩ := I3.after hq'
      subst ev
      exact ⟨rv, .ref (hp.objs.size + 1), H2, I4, rfl, q2⟩
    | next => exact False.elim hq'
    | brk => exact False.elim hq'
    | cont => exact False.elim hq'
end VI
set_option Elab.async false
set_option linter.all false
set_option maxRecDepth 100000
namespace VI
open PySem PySem.Spec PyProof.Rows L2

/-! repr of an own exception with one argument, an int -/
def excWith (C : Addr) (d : Option Addr) (t1 : Addr) : Obj := ⟨.ref C, d, .fields #[.ref t1, .none, .none, .none, .bool false, .none], #[]⟩
section
variable {prog : Program} {w : World} {A : Around} {E : Value → Shared → Prop} {s : Shared} {K : PySem.W.Frag} {e C t1 : Addr} {d : Option Addr} {nm : Str} {i : Int} {it : Tok}
theorem wp_bexc_check {M : Model} {Q : Unit → Shared → Prop} (kin : K.In s.heap) (O : OwnE K C nm) (he : s.heap.get? e = some (excWith C d t1)) (h : Q () s) : wpAny M A (checkBuiltinCall "BaseException.__repr__" ⟨[.ref e], []⟩) Q E s := by
  have hk : builtinKind "BaseException.__repr__" = some .slot := by kernel_rfl
  have hs : splitId "BaseException.__repr__" = some ("BaseException", "__repr__") := by kernel_rfl
  have ha := F.args_bexc_repr (.ref e)
  unfold argsOk at ha
  unfold checkBuiltinCall
  simp only [hk, hs]
  refine wpAny_bind ?_
  unfold isInstance
  refine wpAny_bind (wpAny_typeOf_ref he ?_)
  refine PySem.W.looks_subIn kin O.ot.exc.hs _ _ _ _ (fun _ _ z => z) ?_
  refine wpAny_ite_false (by rfl) ?_
  generalize Manifest.signature? "BaseException.__repr__" = sg at ha ⊢
  cases sg with
  | none => exact wpAny_pure h
  | some sig => exact wpAny_of_eq ha h
theorem wp_typeName {M : Model} {Q : String → Shared → Prop} {cd : ClassData} (kin : K.In s.heap) (hc : PySem.W.clsIn K C = some cd) (he : s.heap.get? e = some (excWith C d t1)) (h : Q cd.name.toString s) : wpAny M A (typeNameOfWhole (.ref e)) Q E s := by
  unfold typeNameOfWhole shownTypeOf
  refine wpAny_bind (wpAny_bind (wpAny_typeOf_ref he ?_))
  refine wpAny_ite_false (by rfl) (wpAny_pure ?_)
  unfold typeNameWhole
  exact wpAny_bind (PySem.W.looks_clsIn kin hc _ _ _ _ (fun _ _ z => z) (wpAny_pure h))
theorem wp_pyRepr_int {Q : Str → Shared → Prop} (hi : i.natAbs.log2 < 1920) (h : Q (Str.ofString (toString i)) ⟨s.heap, s.gens, s.drawn, s.toks + 1, s.os⟩) : wpAny (model prog w) A (pyRepr (.int i it)) Q E s :=
  wpAny_bind (wpAny_pyReprObj_gives (typeIs_int s i it) F.slot_int_repr F.entry_int_repr (F.args_int_repr_1 _) (gives_int_repr i it hi) (wpAny_pure h) rfl (int_text_fits hi))
/-- its text -/
def excText (nm : Str) (i : Int) : Str := nm ++ Str.ofString "(" ++ Str.ofString (toString i) ++ Str.ofString ")"
theorem wp_bexcRepr {Q : Value → Shared → Prop} {ot : Obj} {k : Nat} (kin : K.In s.heap) (O : OwnE K C nm) (he : s.heap.get? e = some (excWith C d t1)) (ht : s.heap.get? t1 = some ot) (hd : ot.data = .seq #[.int i it] k) (hi : i.natAbs.log2 < 1920) (hl : (excText nm i).length ≤ sizeLine) (h : ∀ u tk, Q (.str (excText nm i) u) ⟨s.heap, s.gens, s.drawn, tk, s.os⟩) :
    wpAny (model prog w) A (call (.builtin "BaseException.__repr__") [.ref e]) Q E s := by
  obtain ⟨cd, hc, rfl⟩ := O.name
  have hn := O.short
  refine wpAny_call (codeAny_call_builtin (by kernel_rfl) F.entry_bexc_repr (wp_bexc_check kin O he ?_))
  show wpAny _ _ (Builtin.bexcReprAt 0 ⟨[.ref e], []⟩) _ _ _
  unfold Builtin.bexcReprAt slotArgs
  refine wpAny_bind (wpAny_ite_false (by rfl) (wpAny_ite_false (by rfl) (wpAny_pure ?_)))
  refine wpAny_bind (wp_typeName kin hc he ?_)
  refine wpAny_bind ?_
  unfold Builtin.BaseException.bexcArgs
  refine wpAny_bind (PySem.W.looks_field he 0 rfl _ _ _ _ (fun _ _ z => z) ?_)
  refine wpAny_bind (wpAny_seqItems ht hd (wpAny_pure ?_))
  refine wpAny_bind (wpAny_rule ?_)
  rw [pyReprUnder_leaf (by have := sizeLine_eq; omega) (fun a z => by cases z)]
  refine wpAny_bind (wp_pyRepr_int hi ?_)
  unfold retStr
  refine wpAny_bind (wpAny_mkStr' ?_ hl)
  exact wpAny_pure (h _ _)
theorem wp_special {M : Model} {name : Str} {r : Option Value} {Q : Option Value → Shared → Prop} (kin : K.In s.heap) (hf : PySem.W.findIn K (.ref C) name = some r) (he : s.heap.get? e = some (excWith C d t1)) (h : Q r s) : wpAny M A (specialOf (.ref e) name) Q E s := by
  unfold specialOf
  exact wpAny_bind (wpAny_typeOf_ref he (PySem.W.looks_findIn kin hf _ _ _ _ (fun _ _ z => z) h))
theorem wp_repr_own {Q : Value → Shared → Prop} {ot : Obj} {k : Nat} (kin : K.In s.heap) (O : OwnE K C nm) (he : s.heap.get? e = some (excWith C d t1)) (ht : s.heap.get? t1 = some ot) (hd : ot.data = .seq #[.int i it] k) (hi : i.natAbs.log2 < 1920) (hl : (excText nm i).length ≤ sizeLine) (hu : A.units + 1 < cLine) (h : ∀ u tk, Q (.str (excText nm i) u) ⟨s.heap, s.gens, s.drawn, tk, s.os⟩) :
    wpAny (model prog w) A (call (.builtin "repr") [.ref e]) Q E s := by
  refine Calls.call_function_entry F.kind_repr F.plain_repr F.entry_repr (F.args_repr1 (.ref e)) ?_
  unfold Builtin.repr
  refine wpAny_bind (wpAny_pure (wpAny_bind (wpAny_cRoomFor hu (wpAny_bind (wp_special kin O.rep he ?_)))))
  refine wpAny_bind ?_
  unfold callSpecialIfBound?
  refine wpAny_holding (wpAny_bind ?_)
  unfold bindSpecialIfBound?
  refine wpAny_bind (wp_special kin O.rep he ?_)
  have hb : bindSpecial (.builtin "BaseException.__repr__") (.ref e) = pure (.builtin "BaseException.__repr__", [.ref e]) := by kernel_rfl
  simp only [hb]
  refine wpAny_bind (wpAny_askSetting ?_)
  have fin : ∀ Q2 : Value → Shared → Prop, (∀ u tk, Q2 (.str (excText nm i) u) ⟨s.heap, s.gens, s.drawn, tk, s.os⟩) → wpAny (model prog w) A.in1 (call (.builtin "BaseException.__repr__") [.ref e]) Q2 E s := fun Q2 q => wp_bexcRepr kin O he ht hd hi hl q
  have en : ∀ (x : Value) (u : Tok) (tk : Nat), x = .str (excText nm i) u → wpAny (model prog w) A.in1 (do let b ← isInstance x (.type "str"); if b = true then ret x else do { rule "repr.not-str"; let t ← typeNameOf x; raiseErrorMade "TypeError" (toString "__repr__ returned non-string (type " ++ toString t ++ toString ")") }) (fun fin s' => ∃ v, fin = Fin.done (Flow.ret v) ∧ Q v s') E ⟨s.heap, s.gens, s.drawn, tk, s.os⟩ := fun x u tk ex => by
    subst ex
    exact wpAny_bind (wpAny_isInstance rfl isSubtype_str_str (wpAny_pure ⟨_, rfl, h _ _⟩))
  refine wpAny_ite ?_
  split
  · refine wpAny_bind (wpAny_pure (wpAny_pure ?_))
    exact wpAny_bind (fin _ fun u tk => wpAny_pure (en _ u tk rfl))
  · refine wpAny_tryCatch (wpAny_bind (wpAny_pure (wpAny_pure ?_)))
    exact wpAny_bind (fin _ fun u tk => wpAny_pure (en _ u tk rfl))
end
end VI
set_option Elab.async false
set_option linter.all false
set_option maxRecDepth 100000
namespace VI
open PySem PySem.Spec PyProof.Rows L2

/-! dicts that are only handed on -/
section
variable {X : Cx} {ct : Nat → Option Addr} {E : EX}
theorem i_dct0 {pos : Pos} : PE X (.Dict [] [] pos) (tF (gx X ct) E (fC (.dict []))) := PEw pe_dnewK fun σ H Q ⟨η, ρ, S, rp, er, h⟩ p hp =>
  h η _ _ (fu_new hp) (rp.new hp) (.d (.dct upd_same (rp.notin hp)))
theorem i_dct1 {i j : Int} {k1 k2 : Nat} {pos p1 p2 : Pos} : PE X (.Dict [some (.Constant (.int i) k1 p1)] [.Constant (.int j) k2 p2] pos) (tF (gx X ct) E (fC (.dict []))) :=
  PEw (pe_disp (pps_cons pe_int pe_int pps_nil) rfl rfl (by simp) (by simp)) fun σ H Q ⟨η, ρ, S, rp, er, h⟩ p hp => by
    refine ⟨upd_same, [(.inl i, .int j)], rfl, by simp, ?_⟩
    rw [upd_upd]
    exact h η _ _ (fu_new hp) (rp.new hp) (.d (.dct upd_same (rp.notin hp)))

/-! an own exception made, and handed on -/
def spNo (C : Addr) : Sp := fun vs H Q _ => ∃ a, vs = [.ref a] ∧ H a = some (exo a C none) ∧ Q .non H
structure OwnN (P : Program) (w : World) (K : PySem.W.Frag) (mg : Str → Option Value) (base : Heap) (k : Nat) (x : Str) (C : Addr) : Prop where
  at_ : mg x = some (.ref C)
  T : OexC K C
  init : ∃ (fI : Addr) (fd : FuncData) (ps : List Str), PySem.W.findIn K (.ref C) "__init__" = some (some (.ref fI)) ∧ PySem.W.typeIn K (.ref fI) = some (.type "function") ∧ FnOk P w K mg base CX0 k fI fd ps (spNo C) ∧ Binds K fd ps []
  ot : OwnT K C
def KMake (P : Program) (w : World) (K : PySem.W.Frag) (mg : Str → Option Value) (base : Heap) (x : Str) : Prop := ∃ C, OwnN P w K mg base 1 x C
theorem pe_own0 {k : Nat} {x : Str} {C : Addr} {p pos : Pos} (O : OwnN X.prog X.w X.K X.mg X.base k x C) (hr : Room (k + 1) X.A) (hg : Gl X x) (hdb : (x == ("__debug__" : Str)) = false := by decide) :
    PE X (.Call (.Name x p) [] [] pos) (fun σ H Q => ∀ a, H a = none → Q (.ref a) (upd H a (exo a C none))) := by
  obtain ⟨m, T, ⟨fI, fd, ps, iC, tI, F1, hb⟩, ot⟩ := O
  refine ⟨fun pins s σ H Q I h => ?_⟩
  obtain ⟨nm, q, N, bs, bm, sn, sub, ab, col, dd, k0, k1, k2, k3, k5, hC, hbm⟩ := T.cls
  refine wpAny_Call_Name_kw (ld_glob I hg m ?_ hdb)
  refine PySem.W.callWith_K0 I.kIn T.kC ?_
  show wpAny _ _ (call (.ref C) []) _ _ _
  obtain ⟨hp, g, dr, tk, os⟩ := s
  have hsz : hp.objs.size ≤ hp.objs.size + 1 := Nat.le_succ _
  have hn : H (hp.objs.size + 1) = none := I.hok.fresh hsz
  have kk : ∀ b o, hp.get? b = some o → ((hp.push (PySem.W.kdv_tup [])).push (PySem.HandSPX.excO C hp.objs.size)).get? b = some o := fun b o e => Heap.get?_push_of_some _ (Heap.get?_push_of_some _ e)
  have hget : ((hp.push (PySem.W.kdv_tup [])).push (PySem.HandSPX.excO C hp.objs.size)).get? (hp.objs.size + 1) = some (PySem.HandSPX.excO C hp.objs.size) := by heap_get
  have I2 : Inv X pins σ (upd H (hp.objs.size + 1) (exo (hp.objs.size + 1) C none)) ⟨(hp.push (PySem.W.kdv_tup [])).push (PySem.HandSPX.excO C hp.objs.size), g, dr, tk, os⟩ :=
    I.laid (t' := tk) (a := hp.objs.size + 1) (o := exo (hp.objs.size + 1) C none) (h' := (hp.push (PySem.W.kdv_tup [])).push (PySem.HandSPX.excO C hp.objs.size)) kk hsz (exo_ok hget)
  have r2 : Vals [V.ref (hp.objs.size + 1)] [Value.ref (hp.objs.size + 1)] := .cons rfl .nil
  let Q2 : VK := fun v H' => v = .non ∧ Q (.ref (hp.objs.size + 1)) H'
  have hq : spNo C [V.ref (hp.objs.size + 1)] (upd H (hp.objs.size + 1) (exo (hp.objs.size + 1) C none)) Q2 (fun _ _ _ => False) := ⟨_, rfl, upd_same, rfl, h _ hn⟩
  have hl : ([Value.ref (hp.objs.size + 1)] ++ []).length = ps.length := by
    have e := F1.len _ _ _ _ hq
    simpa using e
  have bnd := hb _ [Value.ref (hp.objs.size + 1)] I2.kIn hl
  rw [List.append_nil] at bnd
  refine wpAny_call (PySem.HandSPX.call_own F.excBase_ValueError (fun Y => PySem.HandSPX.refsVE_contains Y bm hbm) (I.kIn _ _ hC) (PySem.W.looks_findIn I.kIn iC) (fun self => PySem.W.bind_fn I.kIn self tI) (Nat.zero_le _)
    (codeAny_mono (F1.run _ X.stack _ _ ⟨[Value.ref (hp.objs.size + 1)], []⟩ [Value.ref (hp.objs.size + 1)] _ _ (fun _ _ _ => False) (hr.make C [] []) (I2.env0.make C [] []) bnd r2 hq) fun r s' hq' => ?_))
  cases r with
  | error er => exact pass0 pins σ _ _ er s' I2 hq'
  | ok fl =>
    cases fl with
    | ret u =>
      obtain ⟨v, H2, I3, rv, ev, q2⟩ := I2.after hq'
      subst ev
      exact ⟨rv, .ref (hp.objs.size + 1), H2, I3, rfl, q2⟩
    | next => exact False.elim hq'
    | brk => exact False.elim hq'
    | cont => exact False.elim hq'
theorem i_own0 {x : Str} {p pos : Pos} (O : KMake X.prog X.w X.K X.mg X.base x) (hr : Room 2 X.A) (hg : Gl X x := by rfl) (hdb : (x == ("__debug__" : Str)) = false := by decide) : PE X (.Call (.Name x p) [] [] pos) (tF (gx X ct) E (fC (.dict [(.none, .none)]))) := by
  obtain ⟨C, O⟩ := O
  exact PEw (pe_own0 O hr hg hdb) fun σ H Q ⟨η, ρ, S, rp, er, h⟩ a ha => h η _ _ (fu_new ha) (rp.new ha) (.d (.own upd_same (rp.notin ha) O.ot))

/-! isinstance of these too -/
def gIsiA (T : String) (w : W) (S : Store) : O := match w with
  | .d (.dict []) => some (.d (.bool (isT "dict" T)), S)
  | .d (.dict ((.bool true, _) :: _)) => some (.d (.bool (isT "dict" T)), S)
  | .d (.dict _) => some (.d (.bool false), S)
  | w => gIsi T w S
theorem call_isiO {T : String} (hT : T ∈ tys) : CallR X (.builtin "isinstance") (fun xs H Q => ∃ a C, xs = [.ref a, .ty T] ∧ H a = some (exo a C none) ∧ OwnT X.K C ∧ Q (.bl false) H) := by
  intro pins s σ H xs us Q I r h
  obtain ⟨a, C, rfl, ha, ot, q⟩ := h
  obtain ⟨u1, u2, rfl, r1, r2⟩ := vals2 r
  cases (show u1 = Value.ref a from r1)
  cases (show u2 = Value.type T from r2)
  obtain ⟨t1, hget⟩ := exo_at I.hok ha
  have C1 := ot.exc
  exact PySem.W.kia_one (PySem.W.handS_kitx_exc C1.hg C1.hk C1.hs C1.hd C1.ha C1.hn C1.ht C1.hm) I.kIn ⟨hget, rfl, rfl, trivial⟩ (ot.not T hT) (fun z => nomatch z) fun tk => ⟨.bl false, H, I.kept (t' := tk) fun _ _ z => z, rfl, q⟩
theorem call_isiT {T : String} (hT : T ∈ tys) : CallR X (.builtin "isinstance") (fun xs H Q => ∃ a C t1 dx fs, xs = [.ref a, .ty T] ∧ H a = some (exoT a C (some dx) t1) ∧ H dx = some (exd dx fs) ∧ OwnT X.K C ∧ Q (.bl false) H) := by
  intro pins s σ H xs us Q I r h
  obtain ⟨a, C, t1, dx, fs, rfl, ha, hx, ot, q⟩ := h
  obtain ⟨u1, u2, rfl, r1, r2⟩ := vals2 r
  cases (show u1 = Value.ref a from r1)
  cases (show u2 = Value.type T from r2)
  have hget := exoT_at I.hok ha
  obtain ⟨od, hod⟩ : ∃ o, s.heap.get? dx = some o := (I.hok dx _ hx).2.1
  exact PySem.W.kia_one (kitx_excD ot.exc) I.kIn ⟨hget, rfl, rfl, hod⟩ (ot.not T hT) (fun z => nomatch z) fun tk => ⟨.bl false, H, I.kept (t' := tk) fun _ _ z => z, rfl, q⟩
theorem i_isiA (T : String) {x : Str} {e : Expr} {p p2 pos : Pos} {f : FE} (hT : T ∈ tys) (hg : Gl X "isinstance") (hm : X.mg "isinstance" = none) (hx : Gl X x) (hmx : X.mg x = none) (hv : bootBuiltins x = some (.type T)) (he : PE X e (tF (gx X ct) E f)) (hn : x ≠ "__name__" := by decide)
    (hd : (x == ("__debug__" : Str)) = false := by decide) (hs : starEach [e, .Name x p2] X.env = (false, eval e X.env) :: starEach [.Name x p2] X.env := by rfl) (hs2 : starEach [.Name x p2] X.env = (false, eval (.Name x p2) X.env) :: starEach [] X.env := by rfl) (hpl : (backTo pos (starEach [.Name x p2] X.env)).any (·.1) = false := by rfl)
    (hb : bootBuiltins "isinstance" = some (.builtin "isinstance") := by decide +kernel) : PE X (.Call (.Name "isinstance" p) [e, .Name x p2] [] pos) (tF (gx X ct) E (f1 (gIsiA T) f)) :=
  PEw (pe_callB (CallR.or (CallR.or call_isi (call_isiO hT)) (call_isiT hT)) hg hm hb (pa_cons he (pa_cons (pe_bltn (v := .ty T) hx hmx hv rfl hn hd) pa_nil hs2) hs) (by decide) (by decide) hs hpl) fun σ H Q ⟨η, ρ, S, rp, er, h⟩ =>
    ⟨η, ρ, S, rp, er, FinR.mono (FinR.bind (rel := relW (gx X ct)) h) fun v H1 ⟨η1, w, S1, f1, rp1, r1, h1⟩ => by
      have h2 : FinP (gx X ct) (E σ) η1 H1 (lift (gIsiA T w S1)) Q := h1
      unfold gIsiA at h2
      split at h2
      · cases r1 with
        | d r1 =>
          cases r1 with
          | dct g1 g2 => exact .inl (.inl ⟨_, .ty T, .type "dict", .type T, isT "dict" T, rfl, .ty T, .base (.dK g1), kit_ty (by decide) hT, h2 η1 H1 _ (Fu.refl _ _) rp1 (.d (.bool _))⟩)
      · cases r1 with
        | d r1 =>
          cases r1 with
          | dctE g1 g2 g3 g4 => exact .inl (.inl ⟨_, .ty T, .type "dict", .type T, isT "dict" T, rfl, .ty T, .base (.dK g1), kit_ty (by decide) hT, h2 η1 H1 _ (Fu.refl _ _) rp1 (.d (.bool _))⟩)
      · rename_i hne hne2
        cases r1 with
        | d r1 =>
          cases r1 with
          | dct g1 g2 => exact absurd rfl hne
          | dctE g1 g2 g3 g4 => exact absurd rfl (hne2 _ _)
          | own g1 g2 g3 => exact .inl (.inr ⟨_, _, rfl, g1, g3, h2 η1 H1 _ (Fu.refl _ _) rp1 (.d (.bool _))⟩)
          | ownE g1 g2 g3 g4 g5 g6 => exact .inr ⟨_, _, _, _, _, rfl, g1, g3, g6.ot, h2 η1 H1 _ (Fu.refl _ _) rp1 (.d (.bool _))⟩
      · cases q : tyW w S1 with
        | none =>
          unfold gIsi at h2
          rw [q] at h2
          exact h2.elim
        | some t =>
          unfold gIsi at h2
          rw [q] at h2
          obtain ⟨ty, ht⟩ := tyW_ok q rp1 r1
          exact .inl (.inl ⟨v, .ty T, .type t, .type T, isT t T, rfl, .ty T, ty, kit_ty ht hT, h2 η1 H1 _ (Fu.refl _ _) rp1 (.d (.bool _))⟩)⟩

/-! tuple(text) -/
def sigD (z : Str) : List PyData := z.cps.toList.map fun c => PyData.str ⟨#[c]⟩
def gTupleA (ws : List W) (S : Store) : O := match ws with
  | [.d (.str z)] => if z.length ≤ lim then some (.d (.tuple (sigD z)), S) else none
  | ws => gTuple ws S
theorem call_tuple_strX (hc : X.calm = true) : CallR X (.type "tuple") (fun xs H Q => ∃ z, xs = [.str z] ∧ z.length ≤ sizeLine ∧ ∀ l, H l = none → Q (.ref l) (upd H l (.tup (z.cps.toList.map fun c => V.str ⟨#[c]⟩)))) := by
  intro pins s σ H xs us Q I r h
  obtain ⟨z, rfl, hz, h⟩ := h
  obtain ⟨u, rfl, rx⟩ := vals1 r
  obtain ⟨t, rfl⟩ := (show ∃ t, u = Value.str z t from rx)
  refine call_tuple_str (hsz := hz) (I.ok.hd hc) z t fun h' tk acc kp it => ?_
  have I1 : Inv X pins σ H { s with heap := h', toks := tk } := I.kept (t' := tk) kp
  have rv : Vals (z.cps.toList.map fun c => V.str ⟨#[c]⟩) acc.toList := by
    refine vals_of_idx _ _ (by rw [List.length_map, Array.length_toList, Array.length_toList]; exact it.1) fun j v hv => ?_
    obtain ⟨c, u, hc, rfl⟩ := it.2 j v (by simpa using hv)
    exact ⟨.str ⟨#[c]⟩, by simp [hc], u, rfl⟩
  refine ⟨.ref h'.objs.size, _, I1.laid (a := h'.objs.size) (o := .tup (z.cps.toList.map fun c => V.str ⟨#[c]⟩)) (t' := tk) (fun b o e => Heap.get?_push_of_some _ e) (Nat.le_refl _) ⟨by rw [List.length_map, Array.length_toList]; exact hz, acc.toList, rv, ⟨_, Heap.get?_push_size _ rfl, rfl, 0, by simp⟩⟩, rfl, h _ (I1.hok.fresh (Nat.le_refl _))⟩
theorem sig_rep {K : PySem.W.Frag} {η : List Addr} {H : Hp} : ∀ l : List Nat, RepDs K η H (l.map fun c => PyData.str ⟨#[c]⟩) (l.map fun c => V.str ⟨#[c]⟩)
  | [] => .nil
  | c :: l => .cons (.str _) (sig_rep l)
theorem c_tupleA (hc : X.calm = true := by rfl) : CallR X (.type "tuple") (SimL X ct gTupleA) := CallR.fit (CallR.or c_tuple (call_tuple_strX hc)) fun xs H Q ⟨η, S, ws, rp, rr, q⟩ => by
  unfold gTupleA at q
  split at q
  · rename_i z
    obtain ⟨v, rfl, r⟩ := repWs1 rr
    split at q
    · rename_i hz
      cases r with | d r => cases r; exact .inr ⟨z, rfl, lim_ok hz, new_tup rp (sig_rep _) q⟩
    · exact q.elim
  · exact .inl ⟨η, S, _, rp, rr, q⟩

/-! a text so many times -/
def mulOk (x : Str) (n : Int) : Bool := decide (1 < n) && decide (n ≤ 1000) && decide (x.length * n.toNat ≤ 1000)
theorem mulOk_ok {x : Str} {n : Int} (h : mulOk x n = true) : MulOk x n := by
  unfold mulOk at h
  simp only [Bool.and_eq_true, decide_eq_true_eq] at h
  obtain ⟨⟨h1, h2⟩, h3⟩ := h
  have hn : n = (n.toNat : Int) := (Int.toNat_of_nonneg (by omega)).symm
  have hx : x.length ≤ 1000 := by
    refine Nat.le_trans ?_ h3
    exact Nat.le_mul_of_pos_right _ (by omega)
  refine ⟨by simp only [Bool.or_eq_false_iff, decide_eq_false_iff_not]; omega, fun _ _ => ?_, fun _ _ => ?_⟩
  · have : 1000 ≤ ((2 : Int) ^ 63 - 1) / n := Int.le_ediv_of_mul_le (by omega) (by
      have : (2 : Int) ^ 63 - 1 = 9223372036854775807 := by decide
      rw [this]
      omega)
    omega
  · unfold Builtin.Str.tooLong
    simp only [decide_eq_false_iff_not]
    have := sizeLine_eq
    omega
def gMulT (a b : W) (S : Store) : O := match a, b with
  | .d (.str x), .d (.int n) => if mulOk x n = true then some (.d (.str (Txt.mul x n)), S) else none
  | _, _ => none
def gMulA (a b : W) (S : Store) : O := match gMulT a b S with
  | some o => some o
  | none => gMul a b S
theorem op_mulT : OpR X (binaryOp .Mult) (fun x y H Q => ∃ z n, x = .str z ∧ y = .int n ∧ MulOk z n ∧ Q (.str (Txt.mul z n)) H) := by
  intro pins s σ H x y u v Q I rx ry h
  obtain ⟨z, n, rfl, rfl, hm, q⟩ := h
  obtain ⟨t, rfl⟩ := (show ∃ t, u = Value.str z t from rx)
  obtain ⟨t2, rfl⟩ := (show ∃ t, v = Value.int n t from ry)
  exact SB.mul hm fun t' k => ⟨.str _, H, I.tok k, ⟨_, rfl⟩, q⟩
theorem sim_mulT : OpR X (binaryOp .Mult) (Sim2 X ct gMulT) := OpR.fit op_mulT fun x y H Q ⟨η, S, wx, wy, rp, rx, ry, h⟩ => by
  unfold gMulT at h
  split at h
  · split at h
    · rename_i hm
      cases rx with
      | d rx =>
        cases ry with
        | d ry =>
          cases rx
          cases ry
          exact ⟨_, _, rfl, rfl, mulOk_ok hm, same_val rp (.d (.str _)) h⟩
    · exact h.elim
  · exact h.elim
theorem sim_mulA : OpR X (binaryOp .Mult) (Sim2 X ct gMulA) := OpR.orElse sim_mulT sim_mul

/-! list + list, to be changed later -/
def gAddL (a b : W) (S : Store) : O := match asL a S, asL b S with
  | some xs, some ys => if xs.length + ys.length ≤ lim then some (.loc S.length, S ++ [.lst (xs ++ ys)]) else none
  | _, _ => none
theorem sim_addL : OpR X (binaryOp .Add) (Sim2 X ct gAddL) := OpR.fit op_cat fun x y H Q ⟨η, S, wx, wy, rp, rx, ry, h⟩ => by
  unfold gAddL at h
  split at h
  · rename_i xs ys e1 e2
    obtain ⟨a, vs, rfl, h1, h2⟩ := asL_ok e1 rp rx
    obtain ⟨b, us, rfl, h3, h4⟩ := asL_ok e2 rp ry
    split at h
    · rename_i hl
      exact ⟨a, b, vs, us, rfl, rfl, h1, h3, lim_ok (by rw [← h2.length, ← h4.length]; exact hl), new_live rp (h2.append h4) h⟩
    · exact h.elim
  · exact h.elim

/-! a call where something may be raised, its live objects going on -/
variable {n k : Nat} {CX : CXT} {x : Str} {ps : List Str} {g : List W → Store → R W} {p pos : Pos} {e : Expr} {es : List Expr} {fa : FA}
theorem cCallEL (C : CalleeC CX X.prog X.w X.K X.mg X.base ct k x ps g) (px : ∀ σ, PassesAt CX X σ (E σ)) (room : Room k X.A) (gd : X.A.guards = some []) (ha : PA X (e :: es) (tA (gx X ct) E fa)) (hn : ps.length = n := by rfl) (hg : Gl X x := by rfl) (hdb : (x == ("__debug__" : Str)) = false := by decide)
    (he : starEach (e :: es) X.env = (false, eval e X.env) :: starEach es X.env := by rfl) (hpl : (backTo pos (starEach es X.env)).any (·.1) = false := by rfl) : PE X (.Call (.Name x p) (e :: es) [] pos) (tF (gx X ct) E (fCallL n g fa)) := by
  obtain ⟨f, fd, F, m, kp, bn⟩ := C
  subst hn
  refine ⟨fun pins s σ H Q inv ⟨η, ρ, S, rp, er, h⟩ => ?_⟩
  refine wpAny_Call_Name_kw (ld_glob inv hg m ?_ hdb)
  refine PySem.W.callWith_K (h₀ := X.base) inv.ok.mod.kin kp (thn (ha.run pos pins s σ H _ inv ⟨η, ρ, S, rp, er, FinR.bind (rel := relL (gx X ct)) h⟩) fun us s1 ⟨vs, H1, inv1, rel, η1, ws, S1, f1, rp1, r1, h1⟩ => ⟨inv1.kIn, ?_⟩) he hpl
  have h2 : FinP (gx X ct) (E σ) η1 H1 (if ws.length = ps.length then g ws S1 else .bad) Q := h1
  by_cases hw : ws.length = ps.length
  · rw [if_pos hw] at h2
    exact run_E F room gd bn (px σ) inv1 rel ⟨by rw [← r1.length]; exact hw, η1, S1, ws, rp1, r1, h2⟩
  · rw [if_neg hw] at h2
    exact h2.elim
end
section
variable {P : Program} {w : World} {K : PySem.W.Frag} {mg : Str → Option Value} {base : Heap} {ct : Nat → Option Addr} {n : Nat} {x : Str} {st : Stmt} {N ps : List Str} {g : List W → Store → R W} {b : FS}
theorem callee2_succ (D : DefAt K mg x st) (hB : Bnd x st ps) (hS : FnScope N ps (defScope st)) (e : ∀ ws S, g ws S = if 2 ≤ n then runB N.length b ws S else .bad)
    (h : 2 ≤ n → ∀ (f : Addr) (cdv : Value) (A : Around) (outer : List Env) (s : Shared) (H : Hp) (E : XK), Room n (A.deeper (envOfC x (defScope st) s.heap.objs.size f cdv)) → A.guards = some [] → PSs (bodyX P w K mg base N x (defScope st) f cdv A outer s H E) (defBody st) (tS ⟨K, ct⟩ NX b)) :
    Callee P w K mg base ct (n + 1) x ps g := by
  by_cases h2 : 2 ≤ n
  · exact callee_succ D hB hS (fun ws S => by rw [e, if_pos h2]) (h h2)
  · exact callee_zero D hB fun ws S => by rw [e, if_neg h2]
/-- the law by its body, where it makes own things -/
theorem law2_of {y : Str} {nm : Str} {fa : Addr} (h2 : 2 ≤ n) (D : DefAt K mg nm st) (hB : Bnd nm st [y]) (hmg : mg nm = some (.ref fa)) (hS : FnScope N [y] (defScope st)) (e : ∀ ws S, g ws S = if 2 ≤ n then runB N.length b ws S else .bad)
    (h : ∀ (base : Heap) (f : Addr) (cdv : Value) (A : Around) (outer : List Env) (s : Shared) (H : Hp) (E : XK), Room n (A.deeper (envOfC nm (defScope st) s.heap.objs.size f cdv)) → A.guards = some [] → PSs (bodyX P w K mg base N nm (defScope st) f cdv A outer s H E) (defBody st) (tS ⟨K, ct⟩ NX b)) :
    ∃ fd : FuncData, (∀ (s : Shared) (u : Value), BindsTo s fd ⟨[u], []⟩ [(y, u)]) ∧ ∀ base : Heap, FnG P w K mg base CX0 (n + 1) fa fd [y] (spG ⟨K, ct⟩ 1 g) :=
  law_of D hB hmg hS (fun ws S => by rw [e, if_pos h2]) h
end
end VI
set_option Elab.async false
set_option linter.all false
set_option maxRecDepth 100000
namespace VI
open PySem PySem.Spec PyProof.Rows L2

/-! an own class without fields, from the head's facts -/
def otB (K : PySem.W.Frag) (C : Addr) : Bool :=
  decide (PySem.W.findIn K (.ref C) "__getattribute__" = some (some (.builtin "BaseException.__getattribute__"))) && (decide (PySem.W.findIn K (.ref C) "__getattr__" = some none) && (decide (PySem.W.subIn K (.ref C) (.type "BaseException") = some true) && (PySem.W.hasDictIn K C &&
  (decide (PySem.W.findIn K (.ref C) "__class__" = some (some (.builtin "object.__class__"))) && (decide (PySem.W.specialIn K (.builtin "object.__class__") "__get__" = some (some (.builtin "getset_descriptor.__get__"))) && (decide (PySem.W.takesIn K (.builtin "object.__class__") = some true) && (decide (PySem.W.mroIn K C (.type "object") = some true) &&
  tys.all fun T => decide (PySem.W.kitOne K (.ref C) (.type T) = some false))))))))
theorem otB_ok {K : PySem.W.Frag} {C : Addr} (h : otB K C = true) : OwnT K C := by
  obtain ⟨h1, h⟩ := He.ba h
  obtain ⟨h2, h⟩ := He.ba h
  obtain ⟨h3, h⟩ := He.ba h
  obtain ⟨h4, h⟩ := He.ba h
  obtain ⟨h5, h⟩ := He.ba h
  obtain ⟨h6, h⟩ := He.ba h
  obtain ⟨h7, h⟩ := He.ba h
  obtain ⟨h8, h⟩ := He.ba h
  exact ⟨⟨of_decide_eq_true h1, of_decide_eq_true h2, of_decide_eq_true h3, h4, of_decide_eq_true h5, of_decide_eq_true h6, of_decide_eq_true h7, of_decide_eq_true h8⟩, fun T m => of_decide_eq_true (List.all_eq_true.mp h T m)⟩
section
variable {K : PySem.W.Frag} {h : Heap} {mg : Str → Option Value} {fas : List He.Fa} {fns : List He.DefD} {P : Program} {w : World} {base : Heap} {k : Nat} {C fI : Addr} {fd : FuncData}
theorem init_no {qual : Str} {pr : Arguments} {body : List Stmt} {sc : Scope} (F : FunD K "__init__" qual pr body sc [] [] fI fd) (hS : FnScope ["self"] ["self"] sc)
    (hb : ∀ (cdv : Value) (A : Around) (outer : List Env) (s : Shared) (H : Hp) (E : XK), PSs (cxOf CX0 P w K mg base ["self"] qual sc fI cdv A outer s H E) body (fun D σ H => D.nx σ H)) :
    FnOk P w K mg base CX0 (k + 1) fI fd ["self"] (spNo C) := by
  refine FunD.ok F hS (fun vs H Q E h => ?_) fun cdv A outer s H vs Q E hr h => ?_
  · obtain ⟨a, rfl, _⟩ := h
    rfl
  · obtain ⟨a, rfl, _, q⟩ := h
    exact ⟨_, hb cdv A outer s H E, q⟩
theorem ownN_of {x qual : Str} {pr : Arguments} {body : List Stmt} {sc : Scope} (X : K.In h) (G : h.Ns mainGlobals mg) (c : (He.Fa.glo x).ok K = true) (T : oexB K (He.ga K x) = true) (ot : otB K (He.ga K x) = true) (m : (He.Fa.meth x "__init__").ok K = true) (ty : decide (PySem.W.typeIn K (.ref (He.ma K (He.ga K x) "__init__")) = some (.type "function")) = true)
    (F : ∃ fd, FunD K "__init__" qual pr body sc [] [] (He.ma K (He.ga K x) "__init__") fd) (hS : FnScope ["self"] ["self"] sc)
    (hB : ∀ (kV doc pm : Value) (an : Option Addr) (cdv ct : Value) (us : List Value), us.length = 1 → bindArgs (PySem.W.fnOf "__init__" qual pr body sc .none kV doc pm an cdv ct) ⟨us, []⟩ = pure ((["self"] : List Str).zip us))
    (hb : ∀ (cdv : Value) (A : Around) (outer : List Env) (s : Shared) (H : Hp) (E : XK), PSs (cxOf CX0 P w K mg base ["self"] qual sc (He.ma K (He.ga K x) "__init__") cdv A outer s H E) body (fun D σ H => D.nx σ H)) : KMake P w K mg base x := by
  obtain ⟨fd, F⟩ := F
  exact ⟨_, He.glo_ok X G c, oexB_ok T, ⟨_, fd, _, (He.meth_ok m).at_, of_decide_eq_true ty, init_no (k := 0) F hS hb, F.bindsN hB⟩, otB_ok ot⟩
theorem pass_body {X : Cx} {pos : Pos} : PSs X [.Pass pos] (fun D σ H => D.nx σ H) := PSsw (pss_one ps_pass) fun D σ H h => h
end
end VI
set_option Elab.async false
set_option linter.all false
set_option maxRecDepth 100000
namespace VI
open PySem PySem.Spec PyProof.Rows L2

/-! all(list), any(list) of truths -/
def boolsD : List PyData → Option (List Bool)
  | [] => some []
  | .bool b :: r => (boolsD r).map (b :: ·)
  | _ => none
theorem boolsD_ok {K : PySem.W.Frag} {η : List Addr} {H : Hp} : ∀ {ds : List PyData} {vs : List V} {bs : List Bool}, boolsD ds = some bs → RepDs K η H ds vs → vs = bs.map V.bl
  | [], _, _, e, r => by
    cases r
    cases e
    rfl
  | .bool b :: ds, _, _, e, r => by
    cases r with
    | cons h1 h2 =>
      cases h1
      cases q : boolsD ds with
      | none => rw [boolsD, q] at e; cases e
      | some ms => rw [boolsD, q] at e; cases e; rw [boolsD_ok q h2]; rfl
  | .none :: _, vs, ns, e, r => by cases e
  | .int _ :: _, vs, ns, e, r => by cases e
  | .str _ :: _, vs, ns, e, r => by cases e
  | .list _ :: _, vs, ns, e, r => by cases e
  | .tuple _ :: _, vs, ns, e, r => by cases e
  | .dict _ :: _, vs, ns, e, r => by cases e
theorem boolsD_map : ∀ bs : List Bool, boolsD (bs.map PyData.bool) = some bs
  | [] => rfl
  | x :: xs => by rw [List.map_cons, boolsD, boolsD_map xs]; rfl
def gAll (ws : List W) (S : Store) : O := match ws with
  | [w] => match asLst w S with
    | some xs => match boolsD xs with
      | some bs => some (.d (.bool (bs.all id)), S)
      | none => none
    | none => none
  | _ => none
def gAny (ws : List W) (S : Store) : O := match ws with
  | [w] => match asLst w S with
    | some xs => match boolsD xs with
      | some bs => some (.d (.bool (bs.any id)), S)
      | none => none
    | none => none
  | _ => none
variable {X : Cx} {ct : Nat → Option Addr}
theorem c_all (hc : X.calm = true) : CallR X (.builtin "all") (SimL X ct gAll) := CallR.fit (cr_all hc) fun xs H Q ⟨η, S, ws, rp, rr, q⟩ => by
  unfold gAll at q
  split at q
  · obtain ⟨v, rfl, r⟩ := repWs1 rr
    split at q
    · rename_i xs e
      obtain ⟨a, vs, rfl, h1, h2⟩ := asLst_ok e rp r
      split at q
      · rename_i bs e2
        have := boolsD_ok e2 h2
        subst this
        exact ⟨a, bs, rfl, h1, same_val rp (.d (.bool _)) q⟩
      · exact q.elim
    · exact q.elim
  · exact q.elim
theorem c_any (hc : X.calm = true) : CallR X (.builtin "any") (SimL X ct gAny) := CallR.fit (cr_any hc) fun xs H Q ⟨η, S, ws, rp, rr, q⟩ => by
  unfold gAny at q
  split at q
  · obtain ⟨v, rfl, r⟩ := repWs1 rr
    split at q
    · rename_i xs e
      obtain ⟨a, vs, rfl, h1, h2⟩ := asLst_ok e rp r
      split at q
      · rename_i bs e2
        have := boolsD_ok e2 h2
        subst this
        exact ⟨a, bs, rfl, h1, same_val rp (.d (.bool _)) q⟩
      · exact q.elim
    · exact q.elim
  · exact q.elim
/-! str(int), str(text) -/
def gStr (ws : List W) (S : Store) : O := match ws with
  | [.d (.int n)] => if n.natAbs.log2 < 1920 then some (.d (.str (toString n)), S) else none
  | [.d (.str a)] => some (.d (.str a), S)
  | _ => none
theorem c_str : CallR X (.type "str") (SimL X ct gStr) := CallR.fit (CallR.or call_str_int SkE.call_str_str) fun xs H Q ⟨η, S, ws, rp, rr, q⟩ => by
  unfold gStr at q
  split at q
  · rename_i n
    obtain ⟨v, rfl, r⟩ := repWs1 rr
    split at q
    · rename_i hn
      cases r with | d r => cases r; exact .inl ⟨n, rfl, hn, same_val rp (.d (.str _)) q⟩
    · exact q.elim
  · rename_i a
    obtain ⟨v, rfl, r⟩ := repWs1 rr
    cases r with | d r => cases r; exact .inr ⟨a, rfl, same_val rp (.d (.str _)) q⟩
  · exact q.elim

/-! startswith, endswith, join -/
def mStarts : GM := fun o ws S => match o, ws with
  | .d (.str a), [.d (.str b)] => some (.d (.bool (Txt.startswith a b)), S)
  | _, _ => none
def mEnds : GM := fun o ws S => match o, ws with
  | .d (.str a), [.d (.str b)] => some (.d (.bool (Txt.endswith a b)), S)
  | _, _ => none
theorem m_starts : MtR X "str.startswith" (SimM X ct mStarts) := MtR.fit mt_startswith fun x xs H Q ⟨η, S, wx, ws, rp, rx, rr, h⟩ => by
  unfold mStarts at h
  split at h
  · rename_i a b
    obtain ⟨v, rfl, r⟩ := repWs1 rr
    cases rx with | d rx => cases r with | d r => cases rx; cases r; exact ⟨a, b, rfl, rfl, same_val rp (.d (.bool _)) h⟩
  · exact h.elim
theorem m_ends : MtR X "str.endswith" (SimM X ct mEnds) := MtR.fit mt_endswith fun x xs H Q ⟨η, S, wx, ws, rp, rx, rr, h⟩ => by
  unfold mEnds at h
  split at h
  · rename_i a b
    obtain ⟨v, rfl, r⟩ := repWs1 rr
    cases rx with | d rx => cases r with | d r => cases rx; cases r; exact ⟨a, b, rfl, rfl, same_val rp (.d (.bool _)) h⟩
  · exact h.elim
def textsD : List PyData → Option (List Str)
  | [] => some []
  | .str b :: r => (textsD r).map (b :: ·)
  | _ => none
theorem textsD_ok {K : PySem.W.Frag} {η : List Addr} {H : Hp} : ∀ {ds : List PyData} {vs : List V} {bs : List Str}, textsD ds = some bs → RepDs K η H ds vs → vs = bs.map V.str
  | [], _, _, e, r => by
    cases r
    cases e
    rfl
  | .str b :: ds, _, _, e, r => by
    cases r with
    | cons h1 h2 =>
      cases h1
      cases q : textsD ds with
      | none => rw [textsD, q] at e; cases e
      | some ms => rw [textsD, q] at e; cases e; rw [textsD_ok q h2]; rfl
  | .none :: _, vs, ns, e, r => by cases e
  | .int _ :: _, vs, ns, e, r => by cases e
  | .bool _ :: _, vs, ns, e, r => by cases e
  | .list _ :: _, vs, ns, e, r => by cases e
  | .tuple _ :: _, vs, ns, e, r => by cases e
  | .dict _ :: _, vs, ns, e, r => by cases e
theorem textsD_map : ∀ bs : List Str, textsD (bs.map PyData.str) = some bs
  | [] => rfl
  | x :: xs => by rw [List.map_cons, textsD, textsD_map xs]; rfl
def mJoin : GM := fun o ws S => match o, ws with
  | .d (.str a), [w] => match asLst w S with
    | some xs => match textsD xs with
      | some ys => if (ys.map (·.length)).sum + ys.length * a.length ≤ 16777216 then some (.d (.str (Txt.join a ys)), S) else none
      | none => none
    | none => none
  | _, _ => none
theorem m_join : MtR X "str.join" (SimM X ct mJoin) := MtR.fit mt_join fun x xs H Q ⟨η, S, wx, ws, rp, rx, rr, h⟩ => by
  unfold mJoin at h
  split at h
  · rename_i a w
    obtain ⟨v, rfl, r⟩ := repWs1 rr
    split at h
    · rename_i xs e
      obtain ⟨p, vs, rfl, h1, h2⟩ := asLst_ok e rp r
      split at h
      · rename_i ys e2
        have := textsD_ok e2 h2
        subst this
        split at h
        · rename_i hz
          cases rx with | d rx => cases rx; exact ⟨a, p, ys, rfl, rfl, .inl h1, hz, same_val rp (.d (.str _)) h⟩
        · exact h.elim
      · exact h.elim
    · exact h.elim
  · exact h.elim
/-! upper, lower -/
def mUpper : GM := fun o ws S => match o, ws with
  | .d (.str a), [] => if a.length ≤ 5592405 then some (.d (.str (Txt.upper a)), S) else none
  | _, _ => none
def mLower : GM := fun o ws S => match o, ws with
  | .d (.str a), [] => if a.length ≤ 5592405 then some (.d (.str (Txt.lower a)), S) else none
  | _, _ => none
theorem m_upper : MtR X "str.upper" (SimM X ct mUpper) := MtR.fit mt_upper fun x xs H Q ⟨η, S, wx, ws, rp, rx, rr, h⟩ => by
  unfold mUpper at h
  split at h
  · rename_i a
    cases rr
    split at h
    · rename_i hz
      cases rx with | d rx => cases rx; exact ⟨a, rfl, rfl, hz, same_val rp (.d (.str _)) h⟩
    · exact h.elim
  · exact h.elim
theorem m_lower : MtR X "str.lower" (SimM X ct mLower) := MtR.fit mt_lower fun x xs H Q ⟨η, S, wx, ws, rp, rx, rr, h⟩ => by
  unfold mLower at h
  split at h
  · rename_i a
    cases rr
    split at h
    · rename_i hz
      cases rx with | d rx => cases rx; exact ⟨a, rfl, rfl, hz, same_val rp (.d (.str _)) h⟩
    · exact h.elim
  · exact h.elim
def fMethS0 (g : GM) (o : FE) : FE := fun ρ S => (o ρ S).bind fun ov S1 => match ov with
  | .d (.str z) => lift (g (.d (.str z)) [] S1)
  | _ => .bad
theorem i_methS0 {E : EX} {o : Expr} {name : Str} {apos cpos : Pos} {id : String} {g : GM} {fo : FE} (slot : Slot "str" name id) (hty : typeOf (.builtin id) = pure (.type "method_descriptor")) (hm : MtR X id (SimM X ct g)) (ho : PE X o (tF (gx X ct) E fo))
    (hbase : attributeBase o name X.env (eval o X.env) = eval o X.env := by rfl) (hline : (apos.endLine == cpos.line) = true := by rfl) :
    PE X (.Call (.Attribute o name apos) [] [] cpos) (tF (gx X ct) E (fMethS0 g fo)) := PEw (pe_bm0 PySem.F.plainAttrs_str slot hty hm ho hbase hline) fun σ H Q ⟨η, ρ, S, rp, er, h⟩ =>
  ⟨η, ρ, S, rp, er, FinR.mono (FinR.bind (rel := relW (gx X ct)) h) fun v H1 ⟨η1, w, S1, f1, rp1, r1, h1⟩ => by
    split at h1
    · rename_i z
      have r0 := r1
      cases r1 with
      | d r1 =>
        cases r1
        exact ⟨rfl, η1, S1, _, [], rp1, r0, .nil, lift_ok h1⟩
    · exact h1.elim⟩
end VI
set_option Elab.async false
set_option linter.all false
set_option maxRecDepth 100000
set_option maxHeartbeats 4000000
namespace VI
open PySem PySem.Spec PyProof.Rows L2

/-! tuple * int -/
theorem tuple_mul1 (l : Addr) (items : Array Value) (n : Nat) (dd : Option Addr) (sl : Array (Option Value)) (u : Tok) :
    Meets (Builtin.«tuple.__mul__» ⟨[.ref l, .int 1 u], []⟩) (fun _ R s => s.heap.get? l = some { cls := .type "tuple", dict := dd, data := .seq items n, slots := sl } ∧
      R (.ok (.ret (Value.ref l))) s) :=
  .of_wp fun prog w A R s h => by
    obtain ⟨hp, g, d, tk, os⟩ := s
    obtain ⟨hl, h⟩ := h
    have f1 := AutoSeq1.idx_int
    wp_walk using wpAny_loadPart' hl
    exact ⟨_, rfl, h⟩
theorem op_repT1 {X : Cx} : OpR X (binaryOp .Mult) (fun x y H Q => ∃ l xs, x = .ref l ∧ y = .int 1 ∧ SqT X.K H l xs ∧ Q (.ref l) H) := by
  intro pins s σ H x y v u Q I rx ry h
  obtain ⟨l, xs, rfl, rfl, hT, q⟩ := h
  cases rx
  obtain ⟨t, rfl⟩ := ry
  obtain ⟨its, r, ⟨⟨cls, dd, data, sl⟩, ho, hc, n, hd⟩, hs⟩ := I.tuple hT
  simp only at hc hd
  subst hc hd
  refine wpAny_binaryOp_repeat_ref (T := "tuple") (U := "int") (by decide) ⟨_, ho, rfl⟩ (fun s' => typeIs_int s' 1 t) noFill_tuple_mul F.fills_int_mul F.slot_int_rmul repeat_tuple F.slot_int_index.lookup
    (call_meets F.slot_int_rmul (typeIs_int s 1 t) F.entry_int_rmul (F.args_int_rmul_2 _ _) (int_rmul_tuple 1 t l its.toArray n dd sl)
      ⟨ho, rfl, ⟨_, ho, rfl⟩, call_meets F.slot_tuple_mul ⟨_, ho, rfl⟩ F.entry_tuple_mul (F.args_tuple_mul_2 _ _) (tuple_mul1 l its.toArray n dd sl t) ⟨ho, ?_⟩⟩)
  exact ⟨.ref l, H, I, rfl, q⟩
def gRepT (a b : W) (S : Store) : O := match a, b with
  | .d (.tuple xs), .d (.int k) => if xs ≠ [] ∧ xs.length ≤ 1000 ∧ 2 ≤ k ∧ k ≤ 1000 then some (.d (.tuple (List.replicate k.toNat xs).flatten), S) else none
  | _, _ => none
def gRep1 (a b : W) (S : Store) : O := match a, b with
  | .d (.tuple xs), .d (.int k) => if k = 1 then some (.d (.tuple xs), S) else none
  | _, _ => none
def gMulB (a b : W) (S : Store) : O := match gRep1 a b S with
  | some o => some o
  | none => gRepT a b S
section
variable {X : Cx} {ct : Nat → Option Addr}
theorem rep_rep {K : PySem.W.Frag} {η : List Addr} {H : Hp} {ds : List PyData} {vs : List V} (r : RepDs K η H ds vs) : ∀ k : Nat, RepDs K η H (List.replicate k ds).flatten (List.replicate k vs).flatten
  | 0 => .nil
  | k + 1 => by
    rw [List.replicate_succ, List.replicate_succ, List.flatten_cons, List.flatten_cons]
    exact r.append (rep_rep r k)
theorem sim_rep1 : OpR X (binaryOp .Mult) (Sim2 X ct gRep1) := OpR.fit op_repT1 fun x y H Q ⟨η, S, wx, wy, rp, rx, ry, h⟩ => by
  unfold gRep1 at h
  split at h
  · split at h
    · rename_i hk
      subst hk
      cases rx with
      | d rx =>
        cases ry with
        | d ry =>
          cases ry
          cases rx with
          | tuple h1 h2 => exact ⟨_, _, rfl, rfl, h1, same_val rp (.d (.tuple h1 h2)) h⟩
    · exact h.elim
  · exact h.elim
theorem sim_repT : OpR X (binaryOp .Mult) (Sim2 X ct gRepT) := OpR.fit op_repT fun x y H Q ⟨η, S, wx, wy, rp, rx, ry, h⟩ => by
  unfold gRepT at h
  split at h
  · split at h
    · rename_i xs k hk
      obtain ⟨hk1, hk2, hk3, hk4⟩ := hk
      cases rx with
      | d rx =>
        cases ry with
        | d ry =>
          cases ry
          cases rx with
          | tuple h1 h2 =>
            refine ⟨_, _, _, rfl, rfl, h1, ?_, hk3, hk4, by rw [← h2.length]; exact hk2, new_tup rp (rep_rep h2 _) h⟩
            intro e
            subst e
            exact hk1 (List.eq_nil_of_length_eq_zero (by rw [h2.length]; rfl))
    · exact h.elim
  · exact h.elim
theorem sim_mulB : OpR X (binaryOp .Mult) (Sim2 X ct gMulB) := OpR.orElse sim_rep1 sim_repT
end
end VI
set_option Elab.async false
set_option linter.all false
set_option maxRecDepth 100000
set_option maxHeartbeats 4000000
namespace VI
open PySem PySem.Spec PyProof.Rows L2

/-! sorted, of tuples of ints of any length, the first of which is empty -/
section
variable {prog : Program} {w : World} {A : Around} {E : Value → Shared → Prop} {s : Shared}
/-- v is a tuple of these ints -/
def TupI (h : Heap) (v : Value) (ns : List Int) : Prop := ∃ (a : Addr) (its : Array Value), v = .ref a ∧ IsTup h a its ∧ IntsAre its.toList ns
theorem oneLt_tup {u v : Value} {ns ms : List Int} {Q : Bool → Shared → Prop} (hv : TupI s.heap v ns) (hu : TupI s.heap u ms) (hr : A.units < cLine) (h : Q (HT.lexLt ns ms) s) : wpAny (model prog w) A (oneLt' true v u) Q E s := by
  obtain ⟨l, items, rfl, hl, hi⟩ := hv
  obtain ⟨b, items2, rfl, hb, hj⟩ := hu
  obtain ⟨⟨cls, dd, data, sl⟩, ho, hc, n, hd⟩ := id hl
  obtain ⟨⟨cls2, dd2, data2, sl2⟩, ho2, hc2, n2, hd2⟩ := id hb
  simp only at hc hd hc2 hd2
  subst hc hd hc2 hd2
  rw [oneLt'_eq]
  simp only [if_true]
  refine wpAny_bind (wpAny_cRoomFor hr ?_)
  refine wpAny_bind (wpAny_callSpecialIfBound?_slot ⟨_, ho, rfl⟩ PySem.F.slot_tuple_lt (call_meets PySem.F.slot_tuple_lt ⟨_, ho, rfl⟩ PySem.F.entry_tuple_lt (PySem.F.args_tuple_lt_2 _ _) (HT.tuple_lt_ints l b items items2 n n2 dd dd2 sl sl2 ns ms hi hj) ⟨ho, ho2, ?_⟩))
  exact wpAny_truthy_bool h
theorem TupI.keep {h h' : Heap} {v : Value} {ns : List Int} {a : Addr} (t : TupI h v ns) (ha : ∀ o, h.get? a = some o → o.cls ≠ .type "tuple") (k : ∀ b o, b ≠ a → h.get? b = some o → h'.get? b = some o) : TupI h' v ns := by
  obtain ⟨l, its, rfl, ⟨o, ho, hc, n, hd⟩, hi⟩ := t
  exact ⟨l, its, rfl, ⟨o, k l o (fun z => by subst z; exact ha o ho hc) ho, hc, n, hd⟩, hi⟩
theorem first_at {M : Model} {a : Addr} {its : Array Value} {Q : Option Value → Shared → Prop} (t : IsTup s.heap a its) (h : Q its[0]? s) : wpAny M A (firstOfTuple' (.ref a)) Q E s := by
  obtain ⟨o, ho, hc, n, hd⟩ := t
  rw [PySem.W.kas_first_eq]
  refine wpAny_bind (PySem.W.Looks.here (show PySem.W.Looks M s.heap (typeOf (.ref a)) o.cls from (PySem.W.Looks.ld ho).andThen .now) ?_)
  rw [hc, if_neg (by first | decide | simp)]
  exact wpAny_bind (listItems_at ho hd (wpAny_pure h))
theorem firsts_any {M : Model} : ∀ (vs : List Value) {Q : List (Option Value) → Shared → Prop}, (∀ v ∈ vs, ∃ ns, TupI s.heap v ns) → (∀ bs, Q bs s) → wpAny M A (vs.mapM firstOfTuple') Q E s
  | [], Q, _, h => by rw [List.mapM_nil]; exact wpAny_pure (h [])
  | v :: vs, Q, ht, h => by
    obtain ⟨ns, a, its, rfl, t, _⟩ := ht v (by simp)
    rw [List.mapM_cons]
    exact wpAny_bind (first_at t (wpAny_bind (firsts_any vs (fun u m => ht u (by simp [m])) fun bs => wpAny_pure (h _))))
theorem kind_tup {M : Model} {v : Value} {vs : List Value} {Q : SortKind → Shared → Prop} (h0 : TupI s.heap v []) (ht : ∀ u ∈ vs, ∃ ns, TupI s.heap u ns) (h : Q oneType' s) : wpAny M A (keyKind' (v :: vs).toArray) Q E s := by
  have hall : ∀ u ∈ v :: vs, PySem.W.Looks M s.heap (typeOf u) (.type "tuple") := fun u hu => by
    obtain ⟨ns, a, its, rfl, ⟨o, ho, hc, _⟩, _⟩ := show ∃ ns, TupI s.heap u ns from by
      rcases List.mem_cons.mp hu with rfl | hu
      · exact ⟨_, h0⟩
      · exact ht u hu
    exact hc ▸ (show PySem.W.Looks M s.heap (typeOf (.ref a)) o.cls from (PySem.W.Looks.ld ho).andThen .now)
  obtain ⟨a, its, rfl, t, hi⟩ := h0
  have e0 : its[0]? = none := by
    have z : its.toList.length = 0 := hi.length
    rw [Array.length_toList] at z
    exact Array.getElem?_eq_none (by omega)
  rw [keyKind'_eq, List.mapM_toArray, map_eq_pure_bind]
  refine wpAny_bind (wpAny_bind ?_)
  rw [List.mapM_cons]
  refine wpAny_bind (first_at t ?_)
  rw [e0]
  refine wpAny_bind (firsts_any vs ht fun bs => wpAny_pure ?_)
  refine wpAny_pure ?_
  rw [if_neg (by simp), if_neg (by simp)]
  rw [oneTypeOnly'_eq, List.mapM_toArray, map_eq_pure_bind]
  refine wpAny_bind (wpAny_bind (wpAny_bind (PySem.W.kas_mapM (r := Value.type "tuple") _ (fun v hv Q' hq => (hall v hv).here hq) (wpAny_pure ?_))))
  have hall2 : ((List.map (fun _ => Value.type "tuple") (Value.ref a :: vs)).toArray.all fun x => x == Value.type "tuple") = true := by
    simp only [List.all_toArray, List.all_map, List.all_eq_true]
    intro _ _
    rfl
  have h1 : (List.map (fun _ => Value.type "tuple") (Value.ref a :: vs)).toArray[0]? = some (Value.type "tuple") := by simp
  rw [h1]
  simp only [hall2, if_true]
  exact wpAny_pure (wpAny_pure h)
/-- the ints of a key, told by the heap -/
noncomputable def keyI (h : Heap) (v : Value) : List Int := by
  classical
  exact if e : ∃ ns, TupI h v ns then e.choose else []
theorem ints_uniq : ∀ {vs : List Value} {ns ms : List Int}, IntsAre vs ns → IntsAre vs ms → ns = ms
  | _, _, _, .nil, h => by cases h; rfl
  | _, _, _, .cons n t a, h => by
    cases h with
    | cons _ _ b => rw [ints_uniq a b]
theorem TupI.uniq {h : Heap} {v : Value} {ns ms : List Int} (a : TupI h v ns) (b : TupI h v ms) : ns = ms := by
  obtain ⟨l, its, rfl, ⟨o, ho, _, n, hd⟩, hi⟩ := a
  obtain ⟨l2, its2, e, ⟨o2, ho2, _, n2, hd2⟩, hi2⟩ := b
  cases e
  rw [ho] at ho2
  cases ho2
  rw [hd] at hd2
  cases hd2
  exact ints_uniq hi hi2
theorem keyI_eq {h : Heap} {v : Value} {ns : List Int} (t : TupI h v ns) : keyI h v = ns := by
  unfold keyI
  rw [dif_pos ⟨ns, t⟩]
  exact TupI.uniq (Exists.choose_spec (⟨ns, t⟩ : ∃ ns, TupI h v ns)) t
theorem tups_sortable {a : Addr} {v : Value} {vs : List Value} {k : Value → List Int} (h0 : TupI s.heap v []) (ht : ∀ u ∈ v :: vs, TupI s.heap u (k u)) (hr : A.units < cLine) (ha : ∀ o, s.heap.get? a = some o → o.cls ≠ .type "tuple") :
    SrtO.SortableO prog w A s a (v :: vs) fun v u => HT.lexLt (k v) (k u) := by
  intro h' keep
  have ht' : ∀ u ∈ v :: vs, TupI h' u (k u) := fun u m => (ht u m).keep ha keep
  refine ⟨oneType', fun Q E hq => kind_tup (s := { s with heap := h' }) (h0.keep ha keep) (fun u m => ⟨_, ht' u (by simp [m])⟩) hq, fun p q hp hq => ?_⟩
  show wpAny (model prog w) A (keyLt' oneType' p.1 q.1) _ _ _
  rw [keyLt'_oneType]
  exact oneLt_tup (s := { s with heap := h' }) (ht' _ hp) (ht' _ hq) hr ⟨rfl, rfl⟩
theorem sorted_tups {l : Addr} {v : Value} {vs : List Value} {k : Value → List Int} {Q : Value → Shared → Prop} (hl : s.heap.IsList l (v :: vs).toArray) (hz : (v :: vs).length ≤ sizeLine) (h0 : TupI s.heap v []) (ht : ∀ u ∈ v :: vs, TupI s.heap u (k u)) (hr : A.units + 2 < cLine)
    (h : ∀ (h' : Heap) (d : Addr) (out : List Value), SrtO.Srtd (fun v u => HT.lexLt (k v) (k u)) out → SrtO.Stb (fun v u => HT.lexLt (k v) (k u)) out (v :: vs) → (∀ b o, s.heap.get? b = some o → h'.get? b = some o) → s.heap.objs.size ≤ d → (∃ n, h'.get? d = some (seqObj "list" out.toArray n)) → Q (.ref d) { s with heap := h' }) :
    wpAny (model prog w) A (call (.builtin "sorted") [.ref l]) Q E s := by
  refine SrtO.sorted_ord (NtL.swo_lexL k) hl hz (fun h2 h₁ a ha kk => ?_) fun out hs hb => ?_
  · have kp : ∀ {u : Value} {ns : List Int}, TupI s.heap u ns → TupI h₁ u ns := fun {u ns} t => by
      obtain ⟨b, its, rfl, ⟨o, ho, hc, n, hd⟩, hi⟩ := t
      exact ⟨b, its, rfl, ⟨o, (kk b o ho).2, hc, n, hd⟩, hi⟩
    refine tups_sortable (s := { s with heap := h₁ }) (kp h0) (fun u m => kp (ht u m)) (by show A.units + 1 + 1 < cLine; omega) fun o e => ?_
    have e' : some o = some (seqObj "list" (v :: vs).toArray 0) := e.symm.trans ha
    cases e'
    intro c
    exact absurd (Value.type.inj c) (by decide)
  · exact h _ _ out hs hb (fun b o e => sortedAll_old e) (Nat.le_succ _) (sortedAll_at s.heap (v :: vs) out.toArray)
end
/-! the rule -/
def leT (x y : List Int) : Bool := !HT.lexLt y x
theorem leT_trans {x y z : List Int} (h1 : leT x y = true) (h2 : leT y z = true) : leT x z = true := by
  unfold leT at h1 h2 ⊢
  rw [Bool.not_eq_true'] at h1 h2 ⊢
  exact NtL.lex_tr _ _ _ h1 h2
theorem leT_total (x y : List Int) : leT x y = true ∨ leT y x = true := by
  unfold leT
  rw [Bool.not_eq_true', Bool.not_eq_true']
  cases e : HT.lexLt y x with
  | false => exact .inl rfl
  | true => exact .inr (NtL.lex_asym _ _ e)
theorem lex_anti : ∀ {x y : List Int}, HT.lexLt x y = false → HT.lexLt y x = false → x = y
  | [], [], _, _ => rfl
  | [], _ :: _, h, _ => by rw [HT.lexLt_nil_cons] at h; cases h
  | _ :: _, [], _, h => by rw [HT.lexLt_nil_cons] at h; cases h
  | a :: x, b :: y, h1, h2 => by
    rw [HT.lexLt_cons] at h1 h2
    by_cases e : a = b
    · subst e
      rw [if_pos rfl] at h1 h2
      rw [lex_anti h1 h2]
    · rw [if_neg e, decide_eq_false_iff_not] at h1
      rw [if_neg (Ne.symm e), decide_eq_false_iff_not] at h2
      omega
theorem leT_anti {x y : List Int} (h1 : leT x y = true) (h2 : leT y x = true) : x = y := by
  unfold leT at h1 h2
  rw [Bool.not_eq_true'] at h1 h2
  exact lex_anti h2 h1
def srtT (zs : List (List Int)) : List (List Int) := zs.mergeSort leT
theorem srtT_eq {ys zs : List (List Int)} (hp : ys.Perm zs) (hs : ys.Pairwise fun a b => leT a b = true) : ys = srtT zs :=
  List.Perm.eq_of_pairwise (fun a b _ _ h1 h2 => leT_anti h1 h2) hs (List.pairwise_mergeSort (le := leT) (fun a b c => leT_trans) (fun a b => (Bool.or_eq_true _ _).mpr (leT_total a b)) zs) (hp.trans (List.mergeSort_perm zs leT).symm)
theorem intsD_eq : ∀ {ds : List PyData} {ns : List Int}, intsD ds = some ns → ds = ns.map PyData.int
  | [], ns, h => by cases h; rfl
  | d :: ds, ns, h => by
    cases d with
    | int i =>
      rw [intsD] at h
      cases e : intsD ds with
      | none => rw [e] at h; cases h
      | some ms =>
        rw [e] at h
        cases h
        rw [intsD_eq e]
        rfl
    | _ => cases h
def tupsD : List PyData → Option (List (List Int))
  | [] => some []
  | .tuple xs :: r => match intsD xs, tupsD r with
    | some ns, some ks => some (ns :: ks)
    | _, _ => none
  | _ :: _ => none
def tupD (ns : List Int) : PyData := .tuple (ns.map PyData.int)
theorem tupsD_map : ∀ ks : List (List Int), tupsD (ks.map tupD) = some ks
  | [] => rfl
  | k :: ks => by
    rw [List.map_cons]
    show (match intsD (k.map PyData.int), tupsD (ks.map tupD) with | some ns, some ks => some (ns :: ks) | _, _ => none) = _
    rw [intsD_map, tupsD_map ks]
theorem tupsD_ok : ∀ {ds : List PyData} {ks : List (List Int)}, tupsD ds = some ks → ds = ks.map tupD
  | [], ks, h => by cases h; rfl
  | d :: ds, ks, h => by
    cases d with
    | tuple xs =>
      rw [tupsD] at h
      cases e : intsD xs with
      | none => rw [e] at h; cases h
      | some ns =>
        cases e2 : tupsD ds with
        | none => rw [e, e2] at h; cases h
        | some ms =>
          rw [e, e2] at h
          cases h
          rw [tupsD_ok e2, List.map_cons, intsD_eq e]
          rfl
    | _ => cases h
def gSortT (ws : List W) (S : Store) : O := match ws with
  | [u] => match asLW u S with
    | some us => match datas us with
      | some ds => match tupsD ds with
        | some ([] :: ks) => if ks.length < 1000000 then some (.d (.list ((srtT ([] :: ks)).map tupD)), S) else none
        | _ => none
      | none => none
    | none => none
  | _ => none
def gSortA (ws : List W) (S : Store) : O := match gSorted ws S with
  | some o => some o
  | none => gSortT ws S
section
variable {X : Cx} {ct : Nat → Option Addr}
/-- tuples of ints in the heap -/
def VTups (K : PySem.W.Frag) (H : Hp) : List V → List (List Int) → Prop
  | [], [] => True
  | v :: vs, k :: ks => (∃ a, v = .ref a ∧ SqT K H a (k.map V.int)) ∧ VTups K H vs ks
  | _, _ => False
theorem vtups_of {K : PySem.W.Frag} {η : List Addr} {H : Hp} : ∀ {ks : List (List Int)} {vs : List V}, RepDs K η H (ks.map tupD) vs → VTups K H vs ks
  | [], _, h => by cases h; trivial
  | k :: ks, _, h => by
    rw [List.map_cons] at h
    cases h with
    | cons h1 h2 =>
      refine ⟨?_, vtups_of h2⟩
      cases h1 with
      | tuple h3 h4 =>
        rw [intsD_ok (intsD_map k) h4] at h3
        exact ⟨_, rfl, h3⟩
theorem rep_vtups {K : PySem.W.Frag} {η : List Addr} {H : Hp} : ∀ {ks : List (List Int)} {vs : List V}, VTups K H vs ks → RepDs K η H (ks.map tupD) vs
  | [], [], _ => .nil
  | [], _ :: _, h => h.elim
  | _ :: _, [], h => h.elim
  | k :: ks, v :: vs, ⟨⟨a, e, h1⟩, h2⟩ => by
    subst e
    exact .cons (.tuple h1 (ints_map k)) (rep_vtups h2)
where ints_map {K : PySem.W.Frag} {η : List Addr} {H : Hp} : ∀ ns : List Int, RepDs K η H (ns.map PyData.int) (ns.map V.int)
  | [] => .nil
  | n :: ns => .cons (.int n) (ints_map ns)

def refV (u : Value) : V := match u with
  | .ref a => .ref a
  | _ => .non
theorem vtups_its {K : PySem.W.Frag} {H : Hp} {X : Cx} {pins : List (Addr × Obj)} {σ : L2.St} {s : Shared} (hK : X.K = K) (I : Inv X pins σ H s) : ∀ {vs : List V} {its : List Value} {ks : List (List Int)}, Vals vs its → VTups K H vs ks →
    its.map (keyI s.heap) = ks ∧ ∀ u ∈ its, (∃ a, u = .ref a ∧ SqT K H a ((keyI s.heap u).map V.int)) ∧ TupI s.heap u (keyI s.heap u)
  | [], _, [], r, _ => by cases r; exact ⟨rfl, fun _ h => by cases h⟩
  | [], _, _ :: _, _, h => h.elim
  | _ :: _, _, [], _, h => h.elim
  | v :: vs, _, k :: ks, r, ⟨⟨a, e, h1⟩, h2⟩ => by
    subst e
    cases r with
    | cons r1 r2 =>
      rename_i u us
      obtain rfl : u = .ref a := r1
      obtain ⟨e1, e2⟩ := vtups_its hK I r2 h2
      subst hK
      obtain ⟨its, rv, t, _⟩ := I.tuple h1
      have ti : TupI s.heap (.ref a) k := ⟨a, its.toArray, rfl, t, intsAre_of rv⟩
      have ke := keyI_eq ti
      refine ⟨by rw [List.map_cons, ke, e1], fun u hu => ?_⟩
      rcases List.mem_cons.mp hu with rfl | hu
      · rw [ke]
        exact ⟨⟨a, rfl, h1⟩, ti⟩
      · exact e2 u hu
theorem vals_refV : ∀ {us : List Value}, (∀ u ∈ us, ∃ a, u = .ref a) → Vals (us.map refV) us
  | [], _ => .nil
  | u :: us, h => by
    obtain ⟨a, rfl⟩ := h u (by simp)
    exact .cons rfl (vals_refV fun u m => h u (by simp [m]))
theorem vtups_refV {K : PySem.W.Frag} {H : Hp} {k : Value → List Int} : ∀ {us : List Value}, (∀ u ∈ us, ∃ a, u = .ref a ∧ SqT K H a ((k u).map V.int)) → VTups K H (us.map refV) (us.map k)
  | [], _ => trivial
  | u :: us, h => by
    obtain ⟨a, e, h1⟩ := h u (by simp)
    refine ⟨⟨a, by rw [e]; rfl, h1⟩, vtups_refV fun u m => h u (by simp [m])⟩
theorem cr_sortedT (hr : X.A.units + 64 < cLine) : CallR X (.builtin "sorted") (fun xs H Q => ∃ a vs ks, xs = [.ref a] ∧ SqL X.K H a vs ∧ VTups X.K H vs ([] :: ks) ∧ ∀ (ys : List V) (js : List (List Int)) (p : Addr), js.Perm ([] :: ks) → (js.Pairwise fun a b => leT a b = true) → VTups X.K H ys js → H p = none → Q (.ref p) (upd H p (.lst ys))) := by
  intro pins s σ H xs us Q I r h
  obtain ⟨a, vs, ks, rfl, hs, ht, q⟩ := h
  obtain ⟨its, rv, hl, hlen⟩ := I.list hs
  rw [Vals.ref1 r]
  obtain ⟨e1, e2⟩ := vtups_its rfl I rv ht
  have ln := rv.length
  cases its with
  | nil => cases e1
  | cons u0 us0 =>
    rw [List.map_cons] at e1
    injection e1 with e3 e4
    have t0 := (e2 u0 (by simp)).2
    rw [e3] at t0
    refine sorted_tups (k := keyI s.heap) hl.isList (by rw [← ln]; exact hlen) t0 (fun u m => (e2 u m).2) (by omega) fun h' d out hs hb keep hd hg => ?_
    obtain ⟨n, hg⟩ := hg
    have pm : out.Perm (u0 :: us0) := hb.perm
    have mm : ∀ u ∈ out, (∃ a, u = .ref a ∧ SqT X.K H a ((keyI s.heap u).map V.int)) ∧ TupI s.heap u (keyI s.heap u) := fun u m => e2 u (pm.mem_iff.mp m)
    have hz : (out.map refV).length ≤ sizeLine := by rw [List.length_map, pm.length_eq, ← ln]; exact hlen
    refine ⟨.ref d, upd H d (.lst (out.map refV)), I.laid (t' := s.toks) keep hd ⟨hz, out, n, vals_refV fun u m => by
      obtain ⟨⟨a, e, _⟩, _⟩ := mm u m
      exact ⟨a, e⟩, hg⟩, rfl, q _ (out.map (keyI s.heap)) d ?_ ?_ (vtups_refV fun u m => (mm u m).1) (I.hok.fresh hd)⟩
    · have := pm.map (keyI s.heap)
      rw [List.map_cons, e3, e4] at this
      exact this
    · refine List.pairwise_map.mpr (hs.imp fun {x y} e => ?_)
      show (!HT.lexLt (keyI s.heap y) (keyI s.heap x)) = true
      rw [show HT.lexLt (keyI s.heap y) (keyI s.heap x) = false from e]
      rfl
theorem c_sortedT (hr : X.A.units + 64 < cLine) : CallR X (.builtin "sorted") (SimL X ct gSortT) := CallR.fit (cr_sortedT hr) fun xs H Q ⟨η, S, ws, rp, rr, q⟩ => by
  unfold gSortT at q
  split at q
  · rename_i u
    obtain ⟨v, rfl, r⟩ := repWs1 rr
    split at q
    · rename_i us e1
      obtain ⟨a, vs, rfl, h1, h2⟩ := asLW_ok e1 rp r
      split at q
      · rename_i ds e2
        have h3 := datas_ok e2 h2
        split at q
        · rename_i ks e3
          split at q
          · rename_i hl
            have ed := tupsD_ok e3
            rw [ed] at h3
            refine ⟨a, vs, ks, rfl, h1, vtups_of h3, fun ys js p hp hs ht np => ?_⟩
            rw [← srtT_eq hp hs] at q
            exact new_list rp (rep_vtups ht) q p np
          · exact q.elim
        · exact q.elim
      · exact q.elim
    · exact q.elim
  · exact q.elim
theorem c_sortedA (hr : X.A.units + 64 < cLine) : CallR X (.builtin "sorted") (SimL X ct gSortA) := CallR.fit (CallR.or c_sorted (c_sortedT hr)) fun xs H Q ⟨η, S, ws, rp, rr, q⟩ => by
  unfold gSortA at q
  cases e : gSorted ws S with
  | some o => rw [e] at q; exact .inl ⟨η, S, ws, rp, rr, by rw [e]; exact q⟩
  | none => rw [e] at q; exact .inr ⟨η, S, ws, rp, rr, q⟩
end
end VI
set_option Elab.async false
set_option linter.all false
set_option maxRecDepth 100000
namespace VI
open PySem PySem.Spec PyProof.Rows L2

/-! repr of dicts and own exceptions that are values -/
mutual
/-- data whose dicts are told whole -/
def okD : PyData → Bool
  | .list xs => okDs xs
  | .tuple xs => okDs xs
  | .dict ((.bool true, .none) :: ps) => okKv ps
  | .dict _ => false
  | _ => true
def okDs : List PyData → Bool
  | [] => true
  | x :: xs => okD x && okDs xs
def okKv : List (PyData × PyData) → Bool
  | [] => true
  | (_, v) :: r => okD v && okKv r
end
mutual
/-- the data as it is -/
def realD : PyData → PyData
  | .list xs => .list (realDs xs)
  | .tuple xs => .tuple (realDs xs)
  | .dict ((.bool true, .none) :: ps) => .dict (realKv ps)
  | x => x
def realDs : List PyData → List PyData
  | [] => []
  | x :: xs => realD x :: realDs xs
def realKv : List (PyData × PyData) → List (PyData × PyData)
  | [] => []
  | (k, v) :: r => (k, realD v) :: realKv r
end
theorem okKv_snd : ∀ ps : List (PyData × PyData), okKv ps = okDs (ps.map (·.2))
  | [] => rfl
  | (k, v) :: r => by rw [okKv, List.map_cons, okDs, okKv_snd r]
theorem realKv_fst : ∀ ps : List (PyData × PyData), (realKv ps).map (·.1) = ps.map (·.1)
  | [] => rfl
  | (k, v) :: r => by rw [realKv, List.map_cons, List.map_cons, realKv_fst r]
theorem realKv_snd : ∀ ps : List (PyData × PyData), (realKv ps).map (·.2) = realDs (ps.map (·.2))
  | [] => rfl
  | (k, v) :: r => by rw [realKv, List.map_cons, List.map_cons, realDs, realKv_snd r]
section
variable {P : Program} {w : World} {h : Heap}
theorem kv_reads : ∀ {kvs : List (Key × V)} {vs : List (Key × Value)} {es : List DictEntry}, KV kvs vs → Pairs (mixKind P w) es vs → Vals (kvs.map (·.2)) (es.map (·.val)) ∧ ReadsAll h (es.map fun x => x.key) (kvs.map fun p => keyD p.1) []
  | [], _, _, k, p => by
    cases k
    cases p
    exact ⟨.nil, .nil⟩
  | (i, j) :: kvs, _, _, k, p => by
    cases k with
    | cons k1 k2 =>
      cases p with
      | cons p1 p2 p3 =>
        obtain ⟨r1, r2⟩ := kv_reads k2 p3
        obtain ⟨e1, e2⟩ := k1
        rw [mixKind_is, ← e1] at p1
        rename_i kv vs' e es'
        refine ⟨?_, ?_⟩
        · rw [List.map_cons, List.map_cons, p2]
          exact .cons e2 r1
        · rw [List.map_cons, List.map_cons]
          rcases keyIs_shape p1 with ⟨i, t, e1, e2⟩ | ⟨x, t, e1, e2⟩
          · rw [e2]
            have e1' : _ = Sum.inl i := e1
            dsimp only at e1'
            subst e1'
            exact .cons (as := []) (.int i t) r2
          · rw [e2]
            have e1' : _ = Sum.inr x := e1
            dsimp only at e1'
            subst e1'
            exact .cons (as := []) (.str x t) r2
end
section
variable {X : Cx} {pins : List (Addr × Obj)} {σ : L2.St} {H : Hp} {s : Shared} {η : List Addr}
theorem sys_none (I : Inv X pins σ H s) (hk : (X.K.lookup sysModules).isSome = true) : H sysModules = none := by
  obtain ⟨o, e⟩ := Option.isSome_iff_exists.mp hk
  exact (I.bs _ _ (I.ok.mod.kin _ _ e)).2
mutual
theorem RepD.reads (I : Inv X pins σ H s) (hk : (X.K.lookup sysModules).isSome = true) : ∀ {d : PyData} {v : V}, RepD X.K η H d v → okD d = true → ∀ u, RelV v u → ∃ as, Reads s.heap u (realD d) as ∧ sysModules ∉ as
  | _, _, .none, _, u, r => by cases r; exact ⟨_, .none, by simp⟩
  | _, _, .bool b, _, u, r => by cases r; exact ⟨_, .bool b, by simp⟩
  | _, _, .int i, _, u, r => by obtain ⟨t, rfl⟩ := r; exact ⟨_, .int i t, by simp⟩
  | _, _, .str x, _, u, r => by obtain ⟨t, rfl⟩ := r; exact ⟨_, .str x t, by simp⟩
  | _, _, .list h1 h2 h3, k, u, r => by
    cases r
    obtain ⟨its, rv, ⟨o, n, ho, hc, _, hd⟩, _⟩ := I.list (SqL.of h1)
    obtain ⟨as, hr, ns⟩ := RepDs.reads I hk h3 k its rv
    refine ⟨_, .list ho hc hd hr, ?_⟩
    rw [List.mem_cons, not_or]
    refine ⟨fun e => ?_, ns⟩
    rw [← e, sys_none I hk] at h1
    cases h1
  | _, _, .tuple h1 h2, k, u, r => by
    cases r
    obtain ⟨its, rv, ⟨o, ho, hc, n, hd⟩, _⟩ := I.tuple h1
    obtain ⟨as, hr, ns⟩ := RepDs.reads I hk h2 k its rv
    exact ⟨_, .tuple ho hc hd hr, ns⟩
  | _, _, .dct _ _, k, _, _ => by cases k
  | _, _, .own _ _ _, k, _, _ => by cases k
  | _, _, .ownE _ _ _ _ _ _, k, _, _ => by cases k
  | _, _, .dctE (ps := ps) h1 h2 h3 h4, k, u, r => by
    cases r
    obtain ⟨_, hsm, vs, kv, o, es, ep, ho, ex, hdt, _, hp, _⟩ := I.hok _ _ h1
    obtain ⟨rv, rk⟩ := kv_reads (h := s.heap) kv hp
    have k' : okDs (ps.map (·.2)) = true := by rw [← okKv_snd]; exact k
    obtain ⟨bs, hr, ns⟩ := RepDs.reads I hk h4 k' _ rv
    refine ⟨_, .dict (as := []) (bs := bs) ho ex.1 hdt (by rw [realKv_fst, h3]; exact rk) (by rw [realKv_snd]; exact hr), ?_⟩
    rw [List.mem_append, List.mem_singleton, not_or]
    refine ⟨fun e => ?_, ns⟩
    rw [← e, beq_self_eq_true] at hsm
    cases hsm
theorem RepDs.reads (I : Inv X pins σ H s) (hk : (X.K.lookup sysModules).isSome = true) : ∀ {d : List PyData} {v : List V}, RepDs X.K η H d v → okDs d = true → ∀ u, Vals v u → ∃ as, ReadsAll s.heap u (realDs d) as ∧ sysModules ∉ as
  | _, _, .nil, _, u, r => by cases r; exact ⟨_, .nil, by simp⟩
  | _, _, .cons h1 h2, k, u, r => by
    cases r with
    | cons r1 r2 =>
      rw [okDs, Bool.and_eq_true] at k
      obtain ⟨as, q1, n1⟩ := RepD.reads I hk h1 k.1 _ r1
      obtain ⟨bs, q2, n2⟩ := RepDs.reads I hk h2 k.2 _ r2
      exact ⟨_, .cons q1 q2, by rw [List.mem_append, not_or]; exact ⟨n1, n2⟩⟩
end
mutual
theorem asD_reads {S : Store} (I : Inv X pins σ H s) (hk : (X.K.lookup sysModules).isSome = true) (rp : Rp X.K η H S) : ∀ (w : W) (v : V) (x : PyData), asD w S = some x → okD x = true → RepW X.K η H w v → ∀ u, RelV v u → ∃ as, Reads s.heap u (realD x) as ∧ sysModules ∉ as
  | .d y, v, x, e, n, r, u, ru => by rw [asD] at e; cases e; cases r with | d r => exact RepD.reads I hk r n u ru
  | .loc l, v, x, e, n, r, u, ru => by
    rw [asD] at e
    cases r with
    | loc r =>
      cases q : S[l]? with
      | none => rw [q] at e; cases e
      | some o =>
        rw [q] at e
        cases o with
        | lst ws =>
          cases e
          obtain ⟨vs, h1, h2⟩ := rp.all _ _ _ r q
          cases ru
          obtain ⟨its, rv, ⟨o, n', ho, hc, _, hd⟩, _⟩ := I.list (SqL.of h1)
          obtain ⟨as, hr, ns⟩ := RepDs.reads I hk h2 n its rv
          refine ⟨_, .list ho hc hd hr, ?_⟩
          rw [List.mem_cons, not_or]
          refine ⟨fun e => ?_, ns⟩
          rw [← e, sys_none I hk] at h1
          cases h1
        | dK _ => cases e
        | dT _ => cases e
        | ob _ _ => cases e
        | lw _ => cases e
  | .tp ws, v, x, e, n, r, u, ru => by
    rw [asD] at e
    cases r with
    | tp h1 h2 =>
      cases q : asDs ws S with
      | none => rw [q] at e; cases e
      | some ds =>
        rw [q] at e
        cases e
        cases ru
        obtain ⟨its, rv, ⟨o, ho, hc, n', hd⟩, _⟩ := I.tuple h1
        obtain ⟨as, hr, ns⟩ := asDs_reads I hk rp ws _ ds q n h2 _ rv
        exact ⟨_, .tuple ho hc hd hr, ns⟩
  | .fro _, v, x, e, n, r, u, ru => by rw [asD] at e; cases e
  | .er _ _ _, v, x, e, n, r, u, ru => by rw [asD] at e; cases e
  | .lw ws, v, x, e, n, r, u, ru => by
    rw [asD] at e
    cases r with
    | lw h1 _ h2 =>
      cases q : asDs ws S with
      | none => rw [q] at e; cases e
      | some ds =>
        rw [q] at e
        cases e
        cases ru
        obtain ⟨its, rv, ⟨o, n', ho, hc, _, hd⟩, _⟩ := I.list (SqL.of h1)
        obtain ⟨as, hr, ns⟩ := asDs_reads I hk rp ws _ ds q n h2 _ rv
        refine ⟨_, .list ho hc hd hr, ?_⟩
        rw [List.mem_cons, not_or]
        refine ⟨fun e => ?_, ns⟩
        rw [← e, sys_none I hk] at h1
        cases h1
theorem asDs_reads {S : Store} (I : Inv X pins σ H s) (hk : (X.K.lookup sysModules).isSome = true) (rp : Rp X.K η H S) : ∀ (ws : List W) (vs : List V) (xs : List PyData), asDs ws S = some xs → okDs xs = true → RepWs X.K η H ws vs → ∀ u, Vals vs u → ∃ as, ReadsAll s.heap u (realDs xs) as ∧ sysModules ∉ as
  | [], vs, xs, e, n, r, u, ru => by rw [asDs] at e; cases e; cases r; cases ru; exact ⟨_, .nil, by simp⟩
  | w :: ws, vs, xs, e, n, r, u, ru => by
    rw [asDs] at e
    cases r with
    | cons r1 r2 =>
      cases ru with
      | cons u1 u2 =>
        split at e
        · rename_i d ds e1 e2
          cases e
          rw [okDs, Bool.and_eq_true] at n
          obtain ⟨as, q1, n1⟩ := asD_reads I hk rp w _ d e1 n.1 r1 _ u1
          obtain ⟨bs, q2, n2⟩ := asDs_reads I hk rp ws _ ds e2 n.2 r2 _ u2
          exact ⟨_, .cons q1 q2, by rw [List.mem_append, not_or]; exact ⟨n1, n2⟩⟩
        · cases e
end
end
section
variable {X : Cx} {ct : Nat → Option Addr} {E : EX}
/-- repr of data with dicts -/
def gReprG (ws : List W) (S : Store) : O := match ws with
  | [w] => match asD w S with
    | some d => if okD d = true ∧ (realD d).showable = true ∧ (realD d).depth ≤ 64 ∧ (realD d).shown.length ≤ lim then some (.d (.str (realD d).shown), S) else none
    | none => none
  | _ => none
theorem c_reprG (hk : (X.K.lookup sysModules).isSome = true) (hg : X.A.guards = some []) (hu : X.A.units + 65 < cLine) : CallR X (.builtin "repr") (SimL X ct gReprG) := by
  intro pins s σ H xs us Q I rv ⟨η, S, ws, rp, rr, q⟩
  unfold gReprG at q
  split at q
  · obtain ⟨v, rfl, r⟩ := repWs1 rr
    obtain ⟨u, rfl, ru⟩ := vals1 rv
    split at q
    · rename_i d e
      split at q
      · rename_i hz
        obtain ⟨hok, hs, hdp, hz⟩ := hz
        have q' : Q (.str (realD d).shown) H := same_val rp (.d (.str _)) q
        obtain ⟨as, rd, ns⟩ := asD_reads I hk rp _ _ _ e hok r u ru
        revert rd hs hdp hz q'
        generalize realD d = d'
        intro hs hdp hz q' rd
        rcases isRef_of rd with ⟨a, rfl⟩ | ⟨rfl, rfl⟩ | ⟨b, rfl, rfl⟩ | ⟨i, t, rfl, rfl⟩ | ⟨x, t, rfl, rfl⟩
        · exact repr_of_reads' rd hs (fun _ => ns) hg (by omega) (fun _ _ e => e) (fun h' u tk hk => ⟨.str d'.shown, H, I.kept hk, ⟨_, rfl⟩, q'⟩) (lim_ok hz)
        · exact PySem.P.repr_of_none ⟨.str (PyData.shown .none), H, I.tok _, ⟨_, rfl⟩, q'⟩
        · exact PySem.P.repr_of_bool ⟨.str (PyData.shown (.bool b)), H, I.tok _, ⟨_, by cases b <;> rfl⟩, q'⟩
        · exact PySem.P.repr_of_int (of_decide_eq_true hs) ⟨.str (PyData.shown (.int i)), H, I.tok _, ⟨_, rfl⟩, q'⟩
        · exact PySem.P.repr_of_str ⟨.str (PyData.shown (.str x)), H, I.tok _, ⟨_, rfl⟩, q'⟩ (lim_ok hz)
      · exact q.elim
    · exact q.elim
  · exact q.elim
theorem call_reprExc (hu : X.A.units + 65 < cLine) : CallR X (.builtin "repr") (fun xs H Q => ∃ (a C t1 dx : Addr) (nm : Str) (i : Int), xs = [.ref a] ∧ H a = some (exoT a C (some dx) t1) ∧ H t1 = some (.tup [.int i]) ∧ OwnE X.K C nm ∧ i.natAbs.log2 < 1920 ∧ (excText nm i).length ≤ sizeLine ∧ Q (.str (excText nm i)) H) := by
  intro pins s σ H xs us Q I rv hq
  obtain ⟨a, C, t1, dx, nm, i, rfl, ha, ht, O, hi, hl, q⟩ := hq
  obtain ⟨u, rfl, ru⟩ := vals1 rv
  cases (show u = Value.ref a from ru)
  obtain ⟨_, its, vi, ot, hot, hcl, k, hdt⟩ := I.hok t1 _ ht
  obtain ⟨v, rfl, rv1⟩ := vals1 vi
  obtain ⟨it, rfl⟩ := (show ∃ t, v = Value.int i t from rv1)
  exact wp_repr_own (it := it) I.kIn O (exoT_at I.hok ha) hot hdt hi hl (by omega) fun u tk => ⟨.str _, H, I.tok _, ⟨_, rfl⟩, q⟩
def gReprX (ws : List W) (S : Store) : O := match ws with
  | [.d (.dict [(.bool false, .str nm), (.none, .int i)])] => if i.natAbs.log2 < 1920 ∧ (excText nm i).length ≤ lim then some (.d (.str (excText nm i)), S) else none
  | _ => none
theorem c_reprX (hu : X.A.units + 65 < cLine) : CallR X (.builtin "repr") (SimL X ct gReprX) := CallR.fit (call_reprExc hu) fun xs H Q ⟨η, S, ws, rp, rr, q⟩ => by
  unfold gReprX at q
  split at q
  · rename_i nm i
    obtain ⟨v, rfl, r⟩ := repWs1 rr
    split at q
    · rename_i hz
      cases r with
      | d r =>
        cases r with
        | ownE g1 g2 g3 g4 g5 g6 => exact ⟨_, _, _, _, _, _, rfl, g1, g2, g6, hz.1, lim_ok hz.2, same_val rp (.d (.str _)) q⟩
    · exact q.elim
  · exact q.elim
def orO (a b : O) : O := match a with
  | some x => some x
  | none => b
theorem CallR.orO {f : Value} {g g' : List W → Store → O} (h : CallR X f (SimL X ct g)) (h' : CallR X f (SimL X ct g')) : CallR X f (SimL X ct fun ws S => VI.orO (g ws S) (g' ws S)) := CallR.fit (CallR.or h h') fun xs H Q ⟨η, S, ws, rp, rr, q⟩ => by
  cases e : g ws S with
  | some o => exact .inl ⟨η, S, ws, rp, rr, by rw [e]; simp only [e, VI.orO] at q; exact q⟩
  | none => exact .inr ⟨η, S, ws, rp, rr, by simp only [e, VI.orO] at q; exact q⟩
def gReprA (ws : List W) (S : Store) : O := orO (gRepr ws S) (orO (gReprX ws S) (gReprG ws S))
theorem c_reprA (hk : (X.K.lookup sysModules).isSome = true) (hg : X.A.guards = some []) (hu : X.A.units + 65 < cLine) : CallR X (.builtin "repr") (SimL X ct gReprA) := CallR.orO (c_repr hg hu) (CallR.orO (c_reprX hu) (c_reprG hk hg hu))
/-! made -/
theorem i_dct0E {pos : Pos} : PE X (.Dict [] [] pos) (tF (gx X ct) E (fC (.dict [(.bool true, .none)]))) := PEw pe_dnewK fun σ H Q ⟨η, ρ, S, rp, er, h⟩ p hp =>
  h η _ _ (fu_new hp) (rp.new hp) (.d (.dctE (ps := []) upd_same (rp.notin hp) rfl .nil))
theorem i_dct1E {i j : Int} {k1 k2 : Nat} {pos p1 p2 : Pos} : PE X (.Dict [some (.Constant (.int i) k1 p1)] [.Constant (.int j) k2 p2] pos) (tF (gx X ct) E (fC (.dict [(.bool true, .none), (.int i, .int j)]))) :=
  PEw (pe_disp (pps_cons pe_int pe_int pps_nil) rfl rfl (by simp) (by simp)) fun σ H Q ⟨η, ρ, S, rp, er, h⟩ p hp => by
    refine ⟨upd_same, [(.inl i, .int j)], rfl, by simp, ?_⟩
    rw [upd_upd]
    exact h η _ _ (fu_new hp) (rp.new hp) (.d (.dctE (ps := [(.int i, .int j)]) upd_same (rp.notin hp) rfl (.cons (.int j) .nil)))
def KMake1 (P : Program) (w : World) (K : PySem.W.Frag) (mg : Str → Option Value) (base : Heap) (x nm : Str) : Prop := ∃ C f, OwnX1 P w K mg base 1 x C f ∧ OwnE K C nm
theorem i_own1 {x nm : Str} {i : Int} {k1 : Nat} {p p2 pos : Pos} (O : KMake1 X.prog X.w X.K X.mg X.base x nm) (hr : Room 2 X.A) (hg : Gl X x := by rfl) (hdb : (x == ("__debug__" : Str)) = false := by decide) (he : starEach [.Constant (.int i) k1 p2] X.env = (false, eval (.Constant (.int i) k1 p2) X.env) :: starEach [] X.env := by rfl) (hpl : (backTo pos (starEach [] X.env)).any (·.1) = false := by rfl) :
    PE X (.Call (.Name x p) [.Constant (.int i) k1 p2] [] pos) (tF (gx X ct) E (fC (.dict [(.bool false, .str nm), (.none, .int i)]))) := by
  obtain ⟨C, f, O, OE⟩ := O
  refine PEw (pe_own1 O hr (pa_cons pe_int pa_nil he) hg hdb he hpl) fun σ H Q ⟨η, ρ, S, rp, er, h⟩ => ?_
  refine ⟨.int i, rfl, fun a t1 dx ha ht hd n1 n2 n3 => ?_⟩
  have e : upd (upd (upd (upd H t1 (.tup [.int i])) a (exoT a C none t1)) dx (exd dx [(f, .int i)])) a (exoT a C (some dx) t1) = upd (upd (upd H t1 (.tup [.int i])) dx (exd dx [(f, .int i)])) a (exoT a C (some dx) t1) := by
    funext b
    by_cases h1 : b = a
    · subst h1; rw [upd_same, upd_same]
    · rw [upd_ne h1, upd_ne h1]
      by_cases h2 : b = dx
      · subst h2; rw [upd_same, upd_same]
      · rw [upd_ne h2, upd_ne h2, upd_ne h1]
  rw [e]
  have hd1 : upd H t1 (.tup [.int i]) dx = none := by rw [upd_ne n3]; exact hd
  have ha2 : upd (upd H t1 (.tup [.int i])) dx (exd dx [(f, .int i)]) a = none := by rw [upd_ne (Ne.symm n2), upd_ne n1]; exact ha
  have f1 := fu_new (η := η) (o := HO.tup [.int i]) ht
  have f2 := fu_new (η := η) (o := exd dx [(f, .int i)]) hd1
  have f3 := fu_new (η := η) (o := exoT a C (some dx) t1) ha2
  have rp1 := rp.new (o := HO.tup [.int i]) ht
  have rp2 := rp1.new (o := exd dx [(f, .int i)]) hd1
  have rp3 := rp2.new (o := exoT a C (some dx) t1) ha2
  refine h η _ _ ((f1.trans f2).trans f3) rp3 (.d (.ownE (f := f) upd_same ?_ ?_ (rp.notin ha) (rp.notin hd) OE))
  · rw [upd_ne (Ne.symm n1), upd_ne (Ne.symm n3), upd_same]
  · rw [upd_ne n2, upd_same]
end
end VI
set_option Elab.async false
set_option linter.all false
set_option maxRecDepth 100000
namespace VI
open PySem PySem.Spec PyProof.Rows L2

/-! an own class with one field, whose arguments are kept, from the head's facts -/
def oeB (K : PySem.W.Frag) (C : Addr) (nm : Str) : Bool :=
  otB K C && (decide (PySem.W.findIn K (.ref C) "__repr__" = some (some (.builtin "BaseException.__repr__"))) && ((match PySem.W.clsIn K C with
  | some cd => decide (Str.ofString ((cd.name.toString.cutAt '.').getLastD "") = nm)
  | none => false) && decide (nm.length ≤ 1000)))
theorem oeB_ok {K : PySem.W.Frag} {C : Addr} {nm : Str} (h : oeB K C nm = true) : OwnE K C nm := by
  obtain ⟨h1, h⟩ := He.ba h
  obtain ⟨h2, h⟩ := He.ba h
  obtain ⟨h3, h⟩ := He.ba h
  refine ⟨otB_ok h1, of_decide_eq_true h2, ?_, of_decide_eq_true h⟩
  cases q : PySem.W.clsIn K C with
  | none => rw [q] at h3; cases h3
  | some cd => rw [q] at h3; exact ⟨cd, rfl, of_decide_eq_true h3⟩
section
variable {K : PySem.W.Frag} {h : Heap} {mg : Str → Option Value} {P : Program} {w : World} {base : Heap}
theorem ownE_of {x nm qual f1 p1 : Str} {pr : Arguments} {body : List Stmt} {sc : Scope} (X : K.In h) (G : h.Ns mainGlobals mg) (c : (He.Fa.glo x).ok K = true) (T : oexB K (He.ga K x) = true) (oe : oeB K (He.ga K x) nm = true) (m : (He.Fa.meth x "__init__").ok K = true) (ty : decide (PySem.W.typeIn K (.ref (He.ma K (He.ga K x) "__init__")) = some (.type "function")) = true)
    (n1 : (He.Fa.noat x f1).ok K = true) (F : ∃ fd, FunD K "__init__" qual pr body sc [] [] (He.ma K (He.ga K x) "__init__") fd) (hS : FnScope ["self", p1] ["self", p1] sc)
    (hB : ∀ (kV doc pm : Value) (an : Option Addr) (cdv ct : Value) (us : List Value), us.length = 2 → bindArgs (PySem.W.fnOf "__init__" qual pr body sc .none kV doc pm an cdv ct) ⟨us, []⟩ = pure ((["self", p1] : List Str).zip us))
    (hb : ∀ (cdv : Value) (A : Around) (outer : List Env) (s : Shared) (H : Hp) (E : XK), PSs (cxOf CX0 P w K mg base ["self", p1] qual sc (He.ma K (He.ga K x) "__init__") cdv A outer s H E) body (tOstT K f1 (tVar 0) (tVar 1))) : KMake1 P w K mg base x nm := by
  obtain ⟨fd, F⟩ := F
  exact ⟨_, f1, ⟨He.glo_ok X G c, oexB_ok T, _, fd, _, (He.meth_ok m).at_, of_decide_eq_true ty, init_oneT (k := 0) F hS (oexB_ok T) (He.noat_ok n1) hb, F.bindsN hB⟩, oeB_ok oe⟩
end
end VI
set_option Elab.async false
set_option linter.all false
set_option maxRecDepth 100000
namespace VI
open PySem PySem.Spec PyProof.Rows L2

/-! live dicts whose keys are ints or texts -/
def keyW : W → Option Key
  | .d (.int i) => some (.inl i)
  | .d (.str x) => some (.inr x)
  | _ => none
theorem keyW_ok {K : PySem.W.Frag} {η : List Addr} {H : Hp} {w : W} {v : V} {k : Key} (e : keyW w = some k) (r : RepW K η H w v) : v = kV k := by
  unfold keyW at e
  split at e
  · cases e; cases r with | d r => cases r; rfl
  · cases e; cases r with | d r => cases r; rfl
  · cases e
def valD (kvs : List (Key × PyData)) (k : Key) : Option PyData := (kvs.find? fun p => decide (p.1 = k)).map (·.2)
theorem val_rep {K : PySem.W.Frag} {η : List Addr} {H : Hp} (k : Key) : ∀ {kvs : List (Key × PyData)} {vs : List (Key × V)}, kvs.map (·.1) = vs.map (·.1) → RepDs K η H (kvs.map (·.2)) (vs.map (·.2)) →
    (valD kvs k = none ∧ valV vs k = none) ∨ ∃ d v, valD kvs k = some d ∧ valV vs k = some v ∧ RepD K η H d v
  | [], [], _, _ => .inl ⟨rfl, rfl⟩
  | [], _ :: _, e, _ => by cases e
  | _ :: _, [], e, _ => by cases e
  | p :: kvs, q :: vs, e, r => by
    rw [List.map_cons, List.map_cons] at e r
    cases r with
    | cons r1 r2 =>
      have e1 := (List.cons.inj e).1
      have e2 := (List.cons.inj e).2
      unfold valD valV
      rw [List.find?_cons, List.find?_cons]
      by_cases h : p.1 = k
      · rw [decide_eq_true h, decide_eq_true (e1 ▸ h)]
        exact .inr ⟨_, _, rfl, rfl, r1⟩
      · rw [decide_eq_false h, decide_eq_false (e1 ▸ h)]
        exact val_rep k e2 r2
/-- the pairs of a dict that is data -/
def decKv : List (PyData × PyData) → Option (List (Key × PyData))
  | [] => some []
  | (.int i, v) :: r => (decKv r).map ((.inl i, v) :: ·)
  | (.str x, v) :: r => (decKv r).map ((.inr x, v) :: ·)
  | _ :: _ => none
theorem decKv_ok : ∀ {ps : List (PyData × PyData)} {ks : List Key}, ps.map (·.1) = ks.map keyD → ∃ kvs, decKv ps = some kvs ∧ kvs.map (·.1) = ks ∧ kvs.map (·.2) = ps.map (·.2)
  | [], [], _ => ⟨[], rfl, rfl, rfl⟩
  | [], _ :: _, e => by cases e
  | _ :: _, [], e => by cases e
  | (a, v) :: ps, k :: ks, e => by
    rw [List.map_cons, List.map_cons] at e
    obtain ⟨kvs, h1, h2, h3⟩ := decKv_ok (List.cons.inj e).2
    have e1 : a = keyD k := (List.cons.inj e).1
    subst e1
    cases k with
    | inl i => exact ⟨(.inl i, v) :: kvs, by show (decKv ps).map _ = _; rw [h1]; rfl, by rw [List.map_cons, h2], by rw [List.map_cons, List.map_cons, h3]⟩
    | inr x => exact ⟨(.inr x, v) :: kvs, by show (decKv ps).map _ = _; rw [h1]; rfl, by rw [List.map_cons, h2], by rw [List.map_cons, List.map_cons, h3]⟩
theorem decKv_enc : ∀ kvs : List (Key × PyData), decKv (kvs.map fun p => (keyD p.1, p.2)) = some kvs
  | [] => rfl
  | (.inl i, v) :: r => by
    rw [List.map_cons]
    show (decKv (r.map _)).map _ = _
    rw [decKv_enc r]; rfl
  | (.inr x, v) :: r => by
    rw [List.map_cons]
    show (decKv (r.map _)).map _ = _
    rw [decKv_enc r]; rfl
/-- a dict, live or data -/
def asDk (w : W) (S : Store) : Option (List (Key × PyData)) := match w with
  | .loc l => match S[l]? with
    | some (.dK kvs) => some kvs
    | _ => none
  | .d (.dict ((.bool true, .none) :: ps)) => decKv ps
  | _ => none
theorem asDk_ok {K : PySem.W.Frag} {η : List Addr} {H : Hp} {S : Store} {w : W} {v : V} {kvs : List (Key × PyData)} (e : asDk w S = some kvs) (rp : Rp K η H S) (r : RepW K η H w v) : ∃ a vs, v = .ref a ∧ H a = some (.dK vs) ∧ kvs.map (·.1) = vs.map (·.1) ∧ RepDs K η H (kvs.map (·.2)) (vs.map (·.2)) := by
  unfold asDk at e
  split at e
  · rename_i l
    split at e
    · rename_i kvs' q
      cases e
      cases r with
      | loc r =>
        obtain ⟨vs, h1, h2, h3⟩ := rp.all _ _ _ r q
        exact ⟨_, vs, rfl, h1, h2, h3⟩
    · cases e
  · rename_i ps
    cases r with
    | d r =>
      cases r with
      | dctE h1 h2 h3 h4 =>
        rename_i vs
        obtain ⟨kvs', g1, g2, g3⟩ := decKv_ok (ks := vs.map (·.1)) (by rw [h3, List.map_map]; rfl)
        rw [g1] at e
        cases e
        exact ⟨_, vs, rfl, h1, g2, by rw [g3]; exact h4⟩
  · cases e
section
variable {X : Cx} {ct : Nat → Option Addr} {E : EX}
/-- {} that goes on -/
def fDnew : FE := fun _ S => .ok (.loc S.length) (S ++ [.dK []])
theorem new_dict {K : PySem.W.Frag} {η : List Addr} {H : Hp} {S : Store} {Q : VK} (rp : Rp K η H S) (h : FinO ⟨K, ct⟩ η H (some (.loc S.length, S ++ [.dK []])) Q) : ∀ p, H p = none → Q (.ref p) (upd H p (.dK [])) := fun p hp =>
  h (η ++ [p]) _ _ (fu_live hp) (rp.live hp ⟨[], upd_same, rfl, .nil⟩) (.loc (by rw [← rp.len]; simp))
theorem i_dnewL {pos : Pos} : PE X (.Dict [] [] pos) (tF (gx X ct) E fDnew) := PEw pe_dnewK fun σ H Q ⟨η, ρ, S, rp, er, h⟩ p hp => new_dict (ct := ct) rp h p hp
/-- d[k], k being there -/
def gDget (a b : W) (S : Store) : O := match asDk a S, keyW b with
  | some kvs, some k => (valD kvs k).map fun d => (.d d, S)
  | _, _ => none
/-- k in d -/
def gDin (b a : W) (S : Store) : O := match asDk a S, keyW b with
  | some kvs, some k => some (.d (.bool (valD kvs k).isSome), S)
  | _, _ => none
theorem dict_at {K : PySem.W.Frag} {η : List Addr} {H : Hp} {S : Store} {l : Nat} {v : V} {kvs : List (Key × PyData)} (q : S[l]? = some (.dK kvs)) (rp : Rp K η H S) (r : RepW K η H (.loc l) v) : ∃ a vs, v = .ref a ∧ η[l]? = some a ∧ H a = some (.dK vs) ∧ kvs.map (·.1) = vs.map (·.1) ∧ RepDs K η H (kvs.map (·.2)) (vs.map (·.2)) := by
  cases r with
  | loc r =>
    obtain ⟨vs, h1, h2, h3⟩ := rp.all _ _ _ r q
    exact ⟨_, vs, rfl, r, h1, h2, h3⟩
theorem i_dgetL {a b : Expr} {fa fb : FE} {pos : Pos} (hu : X.A.units + 1 < cLine) (ha : PE X a (tF (gx X ct) E fa)) (hb : PE X b (tF (gx X ct) E fb)) (hn : NoSl b := by intro _ _ _ _; simp) : PE X (.Subscript a b pos) (tF (gx X ct) E (f2 gDget fa fb)) :=
  PEw (pe_dget hu ha hb hn) fun σ H Q ⟨η, ρ, S, rp, er, h⟩ => ⟨η, ρ, S, rp, er, FinR.mono (FinR.bind (rel := relW (gx X ct)) h) fun x H1 ⟨η1, wx, S1, f1, rp1, r1, h1⟩ =>
    ⟨η1, ρ, S1, rp1, er.fu f1, FinR.mono (FinR.bind (rel := relW (gx X ct)) h1) fun y H2 ⟨η2, wy, S2, f2, rp2, r2, h2⟩ => by
      have h3 : FinP (gx X ct) (E σ) η2 H2 (lift (gDget wx wy S2)) Q := h2
      unfold gDget at h3
      split at h3
      · rename_i kvs k q hk
        obtain ⟨ad, vs, rfl, hd, e1, e2⟩ := asDk_ok q rp2 (RepW.fu f2 _ _ r1)
        rcases val_rep k e1 e2 with ⟨n1, n2⟩ | ⟨d, v, n1, n2, n3⟩
        · rw [n1] at h3; exact h3.elim
        · rw [n1] at h3
          exact ⟨ad, v, rfl, .inl ⟨vs, k, .inl hd, keyW_ok hk r2, n2.symm⟩, h3 η2 H2 _ (Fu.refl _ _) rp2 (.d n3)⟩
      · exact h3.elim⟩⟩
theorem op_inD (hu : X.A.units + 1 < cLine) : OpR X (compareOp .In) (fun x y H Q => ∃ a o, y = .ref a ∧ DGet H a x o ∧ Q (.bl o.isSome) H) := by
  intro pins s σ H x y u v Q I rx ry h
  obtain ⟨a, o, rfl, g, q⟩ := h
  cases (show v = Value.ref a from ry)
  exact d_in hu I g rx fun s' I' => ⟨.bl _, H, I', rfl, q⟩
theorem sim_inD (hu : X.A.units + 1 < cLine) : OpR X (compareOp .In) (Sim2 X ct gDin) := OpR.fit (op_inD hu) fun x y H Q ⟨η, S, wx, wy, rp, rx, ry, h⟩ => by
  unfold gDin at h
  split at h
  · rename_i kvs k q hk
    obtain ⟨ad, vs, rfl, hd, e1, e2⟩ := asDk_ok q rp ry
    rcases val_rep k e1 e2 with ⟨n1, n2⟩ | ⟨d, v, n1, n2, n3⟩
    · rw [n1] at h
      exact ⟨ad, none, rfl, .inl ⟨vs, k, .inl hd, keyW_ok hk rx, n2.symm⟩, same_val rp (.d (.bool _)) h⟩
    · rw [n1] at h
      exact ⟨ad, some v, rfl, .inl ⟨vs, k, .inl hd, keyW_ok hk rx, n2.symm⟩, same_val rp (.d (.bool _)) h⟩
  · exact h.elim
/-- in, of dicts too -/
def gInD (a b : W) (S : Store) : O := match gDin a b S with
  | some o => some o
  | none => gInA a b S
theorem sim_inDA (hu : X.A.units + 1 < cLine) : OpR X (compareOp .In) (Sim2 X ct gInD) := OpR.orElse (sim_inD hu) sim_inA
end
def putD (kvs : List (Key × PyData)) (k : Key) (v : PyData) : List (Key × PyData) :=
  if (kvs.any fun p => decide (p.1 = k)) = true then kvs.map fun p => if p.1 = k then (p.1, v) else p else kvs ++ [(k, v)]
section
variable {K : PySem.W.Frag} {η : List Addr} {H : Hp} {k : Key} {d : PyData} {v : V}
theorem any_rep : ∀ {kvs : List (Key × PyData)} {vs : List (Key × V)}, kvs.map (·.1) = vs.map (·.1) → (kvs.any fun p => decide (p.1 = k)) = vs.any fun p => decide (p.1 = k)
  | [], [], _ => rfl
  | [], _ :: _, e => by cases e
  | _ :: _, [], e => by cases e
  | p :: kvs, q :: vs, e => by
    rw [List.map_cons, List.map_cons] at e
    rw [List.any_cons, List.any_cons, any_rep (List.cons.inj e).2, (List.cons.inj e).1]
theorem map_rep (rv : RepD K η H d v) : ∀ {kvs : List (Key × PyData)} {vs : List (Key × V)}, kvs.map (·.1) = vs.map (·.1) → RepDs K η H (kvs.map (·.2)) (vs.map (·.2)) →
    ((kvs.map fun p => if p.1 = k then (p.1, d) else p).map (·.1) = (vs.map fun p => if p.1 = k then (p.1, v) else p).map (·.1)) ∧ RepDs K η H ((kvs.map fun p => if p.1 = k then (p.1, d) else p).map (·.2)) ((vs.map fun p => if p.1 = k then (p.1, v) else p).map (·.2))
  | [], [], _, _ => ⟨rfl, .nil⟩
  | [], _ :: _, e, _ => by cases e
  | _ :: _, [], e, _ => by cases e
  | p :: kvs, q :: vs, e, r => by
    rw [List.map_cons, List.map_cons] at e r
    cases r with
    | cons r1 r2 =>
      have e1 := (List.cons.inj e).1
      obtain ⟨i1, i2⟩ := map_rep rv (List.cons.inj e).2 r2
      simp only [List.map_cons]
      by_cases h : p.1 = k
      · rw [if_pos h, if_pos (e1 ▸ h)]
        exact ⟨by rw [e1, i1], .cons rv i2⟩
      · rw [if_neg h, if_neg (e1 ▸ h)]
        exact ⟨by rw [e1, i1], .cons r1 i2⟩
theorem put_rep (rv : RepD K η H d v) {kvs : List (Key × PyData)} {vs : List (Key × V)} (e : kvs.map (·.1) = vs.map (·.1)) (r : RepDs K η H (kvs.map (·.2)) (vs.map (·.2))) : (putD kvs k d).map (·.1) = (putK vs k v).map (·.1) ∧ RepDs K η H ((putD kvs k d).map (·.2)) ((putK vs k v).map (·.2)) := by
  unfold putD putK
  rw [any_rep e]
  split
  · exact map_rep rv e r
  · rw [List.map_append, List.map_append, List.map_append, List.map_append]
    exact ⟨by rw [e]; rfl, r.append (.cons rv .nil)⟩
end
section
variable {X : Cx} {ct : Nat → Option Addr} {E : EX}
/-- d[k] = v -/
def fDput (fv fd fk : FE) : FS := fun ρ S => toS ρ (fv ρ S) fun v S1 => toS ρ (fd ρ S1) fun d S2 => toS ρ (fk ρ S2) fun k S3 => match d, keyW k, v with
  | .loc l, some key, .d x => match S3[l]? with
    | some (.dK kvs) => if kvs.length < lim then .next ρ (S3.set l (.dK (putD kvs key x))) else .bad
    | _ => .bad
  | _, _, _ => .bad
theorem s_dput {o i e : Expr} {pos pos' : Pos} {fo fi fe : FE} (hu : X.A.units + 1 < cLine) (he : PE X e (tF (gx X ct) E fe)) (ho : PE X o (tF (gx X ct) E fo)) (hi : PE X i (tF (gx X ct) E fi)) (hs : swapsWith e (some (o.Subscript i pos')) pos.line X.env = pure false := by rfl) :
    PS X (.Assign [o.Subscript i pos'] e pos) (tS (gx X ct) E (fDput fe fo fi)) := PSw (ps_dput hu ho hi he hs) fun D σ H ⟨η, ρ, S, rp, er, h⟩ =>
  ⟨η, ρ, S, rp, er, FinR.mono (FinS.bind er h) fun v H1 ⟨η1, w, S1, f1, rp1, r1, h1⟩ =>
    ⟨η1, ρ, S1, rp1, er.fu f1, FinR.mono (FinS.bind (er.fu f1) h1) fun x H2 ⟨η2, wd, S2, f2, rp2, r2, h2⟩ =>
      ⟨η2, ρ, S2, rp2, (er.fu f1).fu f2, FinR.mono (FinS.bind ((er.fu f1).fu f2) h2) fun y H3 ⟨η3, wk, S3, f3, rp3, r3, h3⟩ => by
        have er3 := ((er.fu f1).fu f2).fu f3
        have rw_ := RepW.fu f3 _ _ (RepW.fu f2 _ _ r1)
        have rd := RepW.fu f3 _ _ r2
        split at h3
        · rename_i l key d hk _ _
          cases q : S3[l]? with
          | none => simp only [q] at h3; exact h3.elim
          | some so =>
            cases so with
            | dK kvs =>
              simp only [q] at h3
              split at h3
              · rename_i hl
                obtain ⟨ad, vs, rfl, hη, hd, e1, e2⟩ := dict_at q rp3 rd
                cases rw_ with
                | d rv =>
                  have m : ad ∈ η3 := List.mem_of_getElem? hη
                  obtain ⟨u, hu2, mu⟩ := rp3.there m
                  have f : Fu η3 H3 η3 (upd H3 ad (.dK (putK vs key v))) := fu_write m hu2 mu
                  obtain ⟨p1, p2⟩ := put_rep (k := key) rv e1 e2
                  have hlen : vs.length < sizeLine := by
                    have z : kvs.length = vs.length := by rw [← List.length_map (f := (·.1)), e1, List.length_map]
                    rw [← z]
                    rw [sizeLine_eq]
                    exact hl
                  refine ⟨ad, _, rfl, .inl ⟨vs, key, hd, keyW_ok hk r3, hlen, rfl⟩, ?_⟩
                  exact h3 η3 _ σ f (rp3.write hη ⟨_, upd_same, p1, RepDs.fu f _ _ p2⟩) (er3.fu f)
              · exact h3.elim
            | lst _ => simp only [q] at h3; exact h3.elim
            | dT _ => simp only [q] at h3; exact h3.elim
            | ob _ _ => simp only [q] at h3; exact h3.elim
            | lw _ => simp only [q] at h3; exact h3.elim
        · exact h3.elim⟩⟩⟩
theorem op_notInD (hu : X.A.units + 1 < cLine) : OpR X (compareOp .NotIn) (fun x y H Q => ∃ a o, y = .ref a ∧ DGet H a x o ∧ Q (.bl (!o.isSome)) H) := by
  intro pins s σ H x y u v Q I rx ry h
  obtain ⟨a, o, rfl, g, q⟩ := h
  cases (show v = Value.ref a from ry)
  exact d_notIn hu I g rx fun s' I' => ⟨.bl _, H, I', rfl, q⟩
def gNotInD0 (b a : W) (S : Store) : O := match asDk a S, keyW b with
  | some kvs, some k => some (.d (.bool (!(valD kvs k).isSome)), S)
  | _, _ => none
theorem sim_notInD0 (hu : X.A.units + 1 < cLine) : OpR X (compareOp .NotIn) (Sim2 X ct gNotInD0) := OpR.fit (op_notInD hu) fun x y H Q ⟨η, S, wx, wy, rp, rx, ry, h⟩ => by
  unfold gNotInD0 at h
  split at h
  · rename_i kvs k q hk
    obtain ⟨ad, vs, rfl, hd, e1, e2⟩ := asDk_ok q rp ry
    rcases val_rep k e1 e2 with ⟨n1, n2⟩ | ⟨d, v, n1, n2, n3⟩
    · rw [n1] at h
      exact ⟨ad, none, rfl, .inl ⟨vs, k, .inl hd, keyW_ok hk rx, n2.symm⟩, same_val rp (.d (.bool _)) h⟩
    · rw [n1] at h
      exact ⟨ad, some v, rfl, .inl ⟨vs, k, .inl hd, keyW_ok hk rx, n2.symm⟩, same_val rp (.d (.bool _)) h⟩
  · exact h.elim
def gNotInD (a b : W) (S : Store) : O := match gNotInD0 a b S with
  | some o => some o
  | none => gIn true a b S
theorem sim_notInDA (hu : X.A.units + 1 < cLine) : OpR X (compareOp .NotIn) (Sim2 X ct gNotInD) := OpR.orElse (sim_notInD0 hu) sim_notIn
theorem call_lenD : CallR X (.builtin "len") (fun xs H Q => ∃ (a : Addr) (kvs : List (Key × V)), xs = [.ref a] ∧ H a = some (.dK kvs) ∧ Q (.int (kvs.length : Int)) H) := by
  intro pins s σ H xs us Q I r h
  obtain ⟨a, kvs, rfl, hd, q⟩ := h
  obtain ⟨u, rfl, ru⟩ := vals1 r
  cases (show u = Value.ref a from ru)
  exact d_len I (.inl hd) fun t s' I' => ⟨.int _, H, I', ⟨_, rfl⟩, q⟩
def gLenD (ws : List W) (S : Store) : O := match ws with
  | [w] => match asDk w S with
    | some kvs => some (.d (.int (kvs.length : Int)), S)
    | none => gLen [w] S
  | ws => gLen ws S
theorem c_lenD : CallR X (.builtin "len") (SimL X ct gLenD) := CallR.fit (CallR.or c_len call_lenD) fun xs H Q ⟨η, S, ws, rp, rr, q⟩ => by
  unfold gLenD at q
  split at q
  · rename_i w
    split at q
    · rename_i kvs e
      obtain ⟨v, rfl, r⟩ := repWs1 rr
      obtain ⟨ad, vs, rfl, hd, e1, e2⟩ := asDk_ok e rp r
      have z : kvs.length = vs.length := by rw [← List.length_map (f := (·.1)), e1, List.length_map]
      rw [z] at q
      exact .inr ⟨ad, vs, rfl, hd, same_val rp (.d (.int _)) q⟩
    · exact .inl ⟨η, S, _, rp, rr, q⟩
  · exact .inl ⟨η, S, _, rp, rr, q⟩
end
end VI
set_option Elab.async false
set_option linter.all false
set_option maxRecDepth 100000
namespace VI
open PySem PySem.Spec PyProof.Rows L2

/-! instances of own classes -/
abbrev KCls (K : PySem.W.Frag) (nm : Str) : Prop := L2.Cls K (He.ga K nm)
abbrev KFld (K : PySem.W.Frag) (nm f : Str) : Prop := L2.NoAttr K (He.ga K nm) f
theorem look_rep {K : PySem.W.Frag} {η : List Addr} {H : Hp} (f : Str) : ∀ {fs : List (Str × W)} {vs : List (Str × V)}, fs.map (·.1) = vs.map (·.1) → RepWs K η H (fs.map (·.2)) (vs.map (·.2)) →
    (fs.lookup f = none ∧ vs.lookup f = none) ∨ ∃ w v, fs.lookup f = some w ∧ vs.lookup f = some v ∧ RepW K η H w v
  | [], [], _, _ => .inl ⟨rfl, rfl⟩
  | [], _ :: _, e, _ => by cases e
  | _ :: _, [], e, _ => by cases e
  | (a, w) :: fs, (b, v) :: vs, e, r => by
    rw [List.map_cons, List.map_cons] at e r
    cases r with
    | cons r1 r2 =>
      have e1 : a = b := (List.cons.inj e).1
      subst e1
      rw [List.lookup_cons, List.lookup_cons]
      cases h : f == a with
      | true => exact .inr ⟨_, _, rfl, rfl, r1⟩
      | false => exact look_rep f (List.cons.inj e).2 r2
def putW (f : Str) (v : W) : List (Str × W) → List (Str × W)
  | [] => [(f, v)]
  | (g, x) :: r => if g = f then (g, v) :: r else (g, x) :: putW f v r
theorem putW_rep {K : PySem.W.Frag} {η : List Addr} {H : Hp} {f : Str} {w : W} {v : V} (rv : RepW K η H w v) : ∀ {fs : List (Str × W)} {vs : List (Str × V)}, fs.map (·.1) = vs.map (·.1) → RepWs K η H (fs.map (·.2)) (vs.map (·.2)) →
    (putW f w fs).map (·.1) = (L2.putF f v vs).map (·.1) ∧ RepWs K η H ((putW f w fs).map (·.2)) ((L2.putF f v vs).map (·.2))
  | [], [], _, _ => ⟨rfl, .cons rv .nil⟩
  | [], _ :: _, e, _ => by cases e
  | _ :: _, [], e, _ => by cases e
  | (a, x) :: fs, (b, y) :: vs, e, r => by
    rw [List.map_cons, List.map_cons] at e r
    cases r with
    | cons r1 r2 =>
      have e1 : a = b := (List.cons.inj e).1
      subst e1
      unfold putW L2.putF
      by_cases h : a = f
      · rw [if_pos h, if_pos h]
        exact ⟨e, .cons rv r2⟩
      · rw [if_neg h, if_neg h]
        obtain ⟨i1, i2⟩ := putW_rep rv (List.cons.inj e).2 r2
        exact ⟨by rw [List.map_cons, List.map_cons, i1], .cons r1 i2⟩
theorem putW_locs {n : Nat} {f : Str} {w : W} (h : locsB n w = true) : ∀ fs : List (Str × W), locsBs n (fs.map (·.2)) = true → locsBs n ((putW f w fs).map (·.2)) = true
  | [], _ => by show (locsB n w && locsBs n []) = true; rw [h]; rfl
  | (a, x) :: fs, e => by
    have e' : (locsB n x && locsBs n (fs.map (·.2))) = true := e
    rw [Bool.and_eq_true] at e'
    unfold putW
    by_cases hh : a = f
    · rw [if_pos hh]
      show (locsB n w && locsBs n (fs.map (·.2))) = true
      rw [h, e'.2]; rfl
    · rw [if_neg hh]
      show (locsB n x && locsBs n ((putW f w fs).map (·.2))) = true
      rw [e'.1, putW_locs h fs e'.2]; rfl
section
variable {X : Cx} {ct : Nat → Option Addr} {E : EX}
theorem obj_at {K : PySem.W.Frag} {η : List Addr} {H : Hp} {S : Store} {l : Nat} {v : V} {nm : Str} {fs : List (Str × W)} (q : S[l]? = some (.ob nm fs)) (rp : Rp K η H S) (r : RepW K η H (.loc l) v) :
    ∃ a dx vs, v = .ref a ∧ η[l]? = some a ∧ H a = some (.ins (He.ga K nm) dx vs) ∧ fs.map (·.1) = vs.map (·.1) ∧ RepWs K η H (fs.map (·.2)) (vs.map (·.2)) := by
  cases r with
  | loc r =>
    obtain ⟨dx, vs, h1, h2, h3⟩ := rp.all _ _ _ r q
    exact ⟨_, dx, vs, rfl, r, h1, h2, h3⟩
/-- o.f -/
def gFld (nm f : Str) (w : W) (S : Store) : O := match w with
  | .loc l => match S[l]? with
    | some (.ob nm' fs) => if nm' = nm then (fs.lookup f).map fun u => (u, S) else none
    | _ => none
  | _ => none
theorem i_fld {nm f : Str} {e : Expr} {fe : FE} {pos : Pos} (c : KCls X.K nm) (n : KFld X.K nm f) (he : PE X e (tF (gx X ct) E fe)) (hb : attributeBase e f X.env (eval e X.env) = eval e X.env := by rfl) :
    PE X (.Attribute e f pos) (tF (gx X ct) E (f1 (gFld nm f) fe)) := PEw (pe_fld he hb) (get1 (r := fun x H1 Q => ∃ a C dx fs v, x = .ref a ∧ H1 a = some (.ins C dx fs) ∧ L2.Cls X.K C ∧ L2.NoAttr X.K C f ∧ fs.lookup f = some v ∧ Q v H1) fun x H Q ⟨η, S, wx, rp, rx, h⟩ => by
  unfold gFld at h
  split at h
  · rename_i l
    split at h
    · rename_i nm' fs q
      split at h
      · rename_i e0
        subst e0
        obtain ⟨a, dx, vs, rfl, _, h1, h2, h3⟩ := obj_at q rp rx
        rcases look_rep f h2 h3 with ⟨n1, _⟩ | ⟨w, v, n1, n2, n3⟩
        · rw [n1] at h; exact h.elim
        · rw [n1] at h
          exact ⟨a, _, dx, vs, v, rfl, h1, c, n, n2, same_val rp n3 h⟩
      · exact h.elim
    · exact h.elim
  · exact h.elim)
/-- o.f = e -/
def fPutF (nm f : Str) (fv fo : FE) : FS := fun ρ S => toS ρ (fv ρ S) fun v S1 => toS ρ (fo ρ S1) fun o S2 => match o with
  | .loc l => match S2[l]? with
    | some (.ob nm' fs) => if nm' = nm ∧ locsB l v = true ∧ fs.length < 1000 then .next ρ (S2.set l (.ob nm (putW f v fs))) else .bad
    | _ => .bad
  | _ => .bad
theorem len_of {α β : Type} {fs : List (Str × α)} {vs : List (Str × β)} (e : fs.map (·.1) = vs.map (·.1)) : fs.length = vs.length := by
  rw [← List.length_map (f := (·.1)), e, List.length_map]
theorem write_ob {η : List Addr} {H : Hp} {S : Store} {K : PySem.W.Frag} {l : Nat} {a dx : Addr} {nm f : Str} {fs : List (Str × W)} {vs : List (Str × V)} {w : W} {v : V} (rp : Rp K η H S) (ha : η[l]? = some a) (q : S[l]? = some (.ob nm fs)) (h2 : fs.map (·.1) = vs.map (·.1)) (h3 : RepWs K η H (fs.map (·.2)) (vs.map (·.2)))
    (rw_ : RepW K η H w v) (hl : locsB l w = true) : Fu η H η (upd H a (.ins (He.ga K nm) dx (L2.putF f v vs))) ∧ Rp K η (upd H a (.ins (He.ga K nm) dx (L2.putF f v vs))) (S.set l (.ob nm (putW f w fs))) := by
  have m : a ∈ η := List.mem_of_getElem? ha
  obtain ⟨u, hu2, mu⟩ := rp.there m
  have fu : Fu η H η (upd H a (.ins (He.ga K nm) dx (L2.putF f v vs))) := fu_write m hu2 mu
  obtain ⟨p1, p2⟩ := putW_rep (f := f) rw_ h2 h3
  exact ⟨fu, rp.write ha ⟨dx, _, upd_same, p1, RepWs.fu fu _ _ p2⟩ (putW_locs hl fs (rp.wf l _ q))⟩
theorem s_putF {nm f : Str} {o e : Expr} {pos pos' : Pos} {fo fe : FE} (c : KCls X.K nm) (n : KFld X.K nm f) (ho : PE X o (tF (gx X ct) E fo)) (he : PE X e (tF (gx X ct) E fe)) (hs : swapsWith e (some (.Attribute o f pos')) pos.line X.env = pure false := by rfl) :
    PS X (.Assign [.Attribute o f pos'] e pos) (tS (gx X ct) E (fPutF nm f fe fo)) := PSw (ps_fld ho he hs) fun D σ H ⟨η, ρ, S, rp, er, h⟩ =>
  ⟨η, ρ, S, rp, er, FinR.mono (FinS.bind er h) fun v H1 ⟨η1, w, S1, f1, rp1, r1, h1⟩ =>
    ⟨η1, ρ, S1, rp1, er.fu f1, FinR.mono (FinS.bind (er.fu f1) h1) fun x H2 ⟨η2, wo, S2, f2, rp2, r2, h2⟩ => by
      have er2 := (er.fu f1).fu f2
      have rv := RepW.fu f2 _ _ r1
      split at h2
      · rename_i l
        cases q : S2[l]? with
        | none => simp only [q] at h2; exact h2.elim
        | some so =>
          cases so with
          | ob nm' fs =>
            simp only [q] at h2
            split at h2
            · rename_i hc
              obtain ⟨rfl, hl, hz⟩ := hc
              obtain ⟨a, dx, vs, rfl, ha, i1, i2, i3⟩ := obj_at q rp2 r2
              obtain ⟨fu, rp3⟩ := write_ob (dx := dx) (f := f) rp2 ha q i2 i3 rv hl
              exact ⟨a, _, dx, vs, rfl, i1, c, n, by rw [← len_of i2]; exact hz, h2 η2 _ σ fu rp3 (er2.fu fu)⟩
            · exact h2.elim
          | lst _ => simp only [q] at h2; exact h2.elim
          | dK _ => simp only [q] at h2; exact h2.elim
          | dT _ => simp only [q] at h2; exact h2.elim
          | lw _ => simp only [q] at h2; exact h2.elim
      · exact h2.elim⟩⟩
/-- o.f op= e -/
def fAugF (nm f : Str) (g : W → W → Store → O) (fo fe : FE) : FS := fun ρ S => toS ρ (fo ρ S) fun o S1 => match gFld nm f o S1 with
  | some (u, _) => toS ρ (fe ρ S1) fun y S2 => match g u y S2 with
    | some (z, S3) => match o with
      | .loc l => match S3[l]? with
        | some (.ob nm' fs) => if nm' = nm ∧ locsB l z = true ∧ fs.length < 1000 then .next ρ (S3.set l (.ob nm (putW f z fs))) else .bad
        | _ => .bad
      | _ => .bad
    | none => .bad
  | none => .bad
theorem gFld_at {K : PySem.W.Frag} {η : List Addr} {H : Hp} {S S' : Store} {nm f : Str} {o u : W} {v : V} (e : gFld nm f o S = some (u, S')) (rp : Rp K η H S) (r : RepW K η H o v) :
    ∃ l a dx vs v', o = .loc l ∧ v = .ref a ∧ η[l]? = some a ∧ H a = some (.ins (He.ga K nm) dx vs) ∧ vs.lookup f = some v' ∧ RepW K η H u v' := by
  unfold gFld at e
  split at e
  · rename_i l
    split at e
    · rename_i nm' fs q
      split at e
      · rename_i e0
        subst e0
        obtain ⟨a, dx, vs, rfl, ha, h1, h2, h3⟩ := obj_at q rp r
        rcases look_rep f h2 h3 with ⟨n1, _⟩ | ⟨w, v, n1, n2, n3⟩
        · rw [n1] at e; cases e
        · rw [n1] at e; cases e; exact ⟨l, a, dx, vs, v, rfl, rfl, ha, h1, n2, n3⟩
      · cases e
    · cases e
  · cases e
theorem s_augF {nm f : Str} {o e : Expr} {op : Operator} {g : W → W → Store → O} {pos tpos : Pos} {fo fe : FE} (c : KCls X.K nm) (n : KFld X.K nm f) (hop : OpR X (inplaceOp op) (Sim2 X ct g)) (ho : PE X o (tF (gx X ct) E fo)) (he : PE X e (tF (gx X ct) E fe)) :
    PS X (.AugAssign (.Attribute o f tpos) op e pos) (tS (gx X ct) E (fAugF nm f g fo fe)) := PSw (ps_fldaug (rd := Sim2 X ct g) ho he (fun pins s σ H x y u v Q I rx ry q => hop pins s σ H x y u v Q I rx ry q)) fun D σ H ⟨η, ρ, S, rp, er, h⟩ =>
  ⟨η, ρ, S, rp, er, FinR.mono (FinS.bind er h) fun v H1 ⟨η1, wo, S1, f1, rp1, r1, h1⟩ => by
    cases q : gFld nm f wo S1 with
    | none => simp only [q] at h1; exact h1.elim
    | some p =>
      obtain ⟨u, S1'⟩ := p
      simp only [q] at h1
      obtain ⟨l, a, dx, vs, v', rfl, rfl, ha, i1, i2, i3⟩ := gFld_at q rp1 r1
      refine ⟨a, _, dx, vs, v', rfl, i1, c, n, i2, η1, ρ, S1, rp1, er.fu f1, FinR.mono (FinS.bind (er.fu f1) h1) fun y H2 ⟨η2, wy, S2, f2, rp2, r2, h2⟩ => ?_⟩
      cases q2 : g u wy S2 with
      | none => simp only [q2] at h2; exact h2.elim
      | some p =>
        obtain ⟨z, S3⟩ := p
        simp only [q2] at h2
        refine ⟨η2, S2, u, wy, rp2, RepW.fu f2 _ _ i3, r2, ?_⟩
        rw [q2]
        intro η3 H3 zv f3 rp3 rz
        cases q3 : S3[l]? with
        | none => simp only [q3] at h2; exact h2.elim
        | some so =>
          cases so with
          | ob nm' fs =>
            simp only [q3] at h2
            split at h2
            · rename_i hc
              obtain ⟨rfl, hl, hz⟩ := hc
              have ha3 : η3[l]? = some a := f3.get (f2.get ha)
              obtain ⟨dx', vs', j1, j2, j3⟩ := rp3.all _ _ _ ha3 q3
              obtain ⟨fu, rp4⟩ := write_ob (dx := dx') (f := f) rp3 ha3 q3 j2 j3 rz hl
              exact ⟨dx', vs', j1, by rw [← len_of j2]; exact hz, h2 η3 _ σ (f3.trans fu) rp4 (((er.fu f1).fu f2).fu (f3.trans fu))⟩
            · exact h2.elim
          | lst _ => simp only [q3] at h2; exact h2.elim
          | dK _ => simp only [q3] at h2; exact h2.elim
          | dT _ => simp only [q3] at h2; exact h2.elim
          | lw _ => simp only [q3] at h2; exact h2.elim⟩
end
/-! methods -/
section
variable {X : Cx} {ct : Nat → Option Addr} {CX : CXT} {k n : Nat} {E : EX} {nm m : Str} {ps : List Str} {g : List W → Store → R W} {o e : Expr} {es : List Expr} {pos apos : Pos} {fo : FE} {fa : FA}
def isOb (nm m : Str) (o : W) (S : Store) : Bool := match o with
  | .loc l => match S[l]? with
    | some (.ob nm' fs) => decide (nm' = nm) && (fs.lookup m).isNone
    | _ => false
  | _ => false
theorem isOb_at {K : PySem.W.Frag} {η : List Addr} {H : Hp} {S : Store} {w : W} {v : V} (e : isOb nm m w S = true) (rp : Rp K η H S) (r : RepW K η H w v) : ∃ a dx vs, v = .ref a ∧ H a = some (.ins (He.ga K nm) dx vs) ∧ vs.lookup m = none := by
  unfold isOb at e
  split at e
  · rename_i l
    split at e
    · rename_i nm' fs q
      rw [Bool.and_eq_true, decide_eq_true_eq] at e
      obtain ⟨rfl, e2⟩ := e
      obtain ⟨a, dx, vs, rfl, ha, h1, h2, h3⟩ := obj_at q rp r
      rcases look_rep m h2 h3 with ⟨n1, n2⟩ | ⟨w, v, n1, n2, n3⟩
      · exact ⟨a, dx, vs, rfl, h1, n2⟩
      · rw [n1] at e2; cases e2
    · cases e
  · cases e
def fMethC (nm m : Str) (n : Nat) (g : List W → Store → R W) (fo : FE) (fa : FA) : FE := fun ρ S => (fo ρ S).bind fun o S1 => if isOb nm m o S1 = true then (fa ρ S1).bind fun ws S2 => if ws.length + 1 = n then frz S2.length (g (o :: ws) S2) else .bad else .bad
def fMethCL (nm m : Str) (n : Nat) (g : List W → Store → R W) (fo : FE) (fa : FA) : FE := fun ρ S => (fo ρ S).bind fun o S1 => if isOb nm m o S1 = true then (fa ρ S1).bind fun ws S2 => if ws.length + 1 = n then g (o :: ws) S2 else .bad else .bad
/-- a method of the class nm -/
def CalleeM (CX : CXT) (P : Program) (w : World) (K : PySem.W.Frag) (mg : Str → Option Value) (base : Heap) (ct : Nat → Option Addr) (k : Nat) (nm m : Str) (ps : List Str) (g : List W → Store → R W) : Prop :=
  ∃ (f : Addr) (fd : FuncData), FnG P w K mg base CX k f fd ps (spG ⟨K, ct⟩ ps.length g) ∧ L2.Meth K (He.ga K nm) m f ∧ Binds K fd ps []
theorem pe_methG {C f : Addr} {fd : FuncData} {sp : L2.St → Sp} {ta : TE} {t : TA} {pl : Sem Bool} (he : PE X o ta) (c : L2.Cls X.K C) (hm : L2.Meth X.K C m f)
    (run : ∀ (pins : List (Addr × Obj)) (σ : L2.St) (H : Hp) (s : Shared) (Q : VK) (us : List Value) (vs : List V), Inv X pins σ H s → Vals vs us → sp σ vs H Q (E σ) → wpAny (model X.prog X.w) X.A (call (.ref f) us) (EP X pins σ Q) X.xe s)
    (ha : PA X (e :: es) t) (hst : starEach (e :: es) X.env = (false, eval e X.env) :: starEach es X.env := by rfl) (hpl : (backTo pos (starEach es X.env)).any (·.1) = false := by rfl)
    (ht : eval (.Call (.Attribute o m apos) (e :: es) [] pos) X.env = (do
      let ov ← eval o X.env
      standAt apos.atName
      let (f, first) ← holding [ov] (getMethod ov m pl)
      callWith pos f first (backTo pos (starEach (e :: es) X.env)) (backToKw pos (keywordEach [] X.env))) := by rfl) :
    PE X (.Call (.Attribute o m apos) (e :: es) [] pos) (fun σ H Q => ta σ H fun x H1 => ∃ a dx fs, x = .ref a ∧ H1 a = some (.ins C dx fs) ∧ fs.lookup m = none ∧ t σ H1 fun vs H2 => sp σ (x :: vs) H2 Q (E σ)) := by
  refine ⟨fun pins s σ H Q I h => ?_⟩
  refine PySem.W.methodCall_KW (pl := pl) (thn (he.run pins s σ H _ I h) fun u s1 ⟨x, H1, I1, rx, a, dx, fs, ex, ea, l, q⟩ => ?_) ht
  subst ex
  obtain rfl : u = Value.ref a := rx
  refine getmeth_ok I1 ea c hm l ?_
  refine PySem.W.callWith_K (first := [.ref a]) (h₀ := X.base) I.ok.mod.kin hm.kp (thn (ha.run pos pins s1 σ H1 _ I1 q) fun us s2 ⟨vs, H2, I2, r, q2⟩ => ⟨I2.kIn, ?_⟩) hst hpl
  exact run pins σ H2 s2 Q (.ref a :: us) (.ref a :: vs) I2 (.cons rfl r) q2
theorem pe_methG0 {C f : Addr} {fd : FuncData} {sp : L2.St → Sp} {ta : TE} {pl : Sem Bool} (he : PE X o ta) (c : L2.Cls X.K C) (hm : L2.Meth X.K C m f)
    (run : ∀ (pins : List (Addr × Obj)) (σ : L2.St) (H : Hp) (s : Shared) (Q : VK) (us : List Value) (vs : List V), Inv X pins σ H s → Vals vs us → sp σ vs H Q (E σ) → wpAny (model X.prog X.w) X.A (call (.ref f) us) (EP X pins σ Q) X.xe s)
    (ht : eval (.Call (.Attribute o m apos) [] [] pos) X.env = (do
      let ov ← eval o X.env
      standAt apos.atName
      let (f, first) ← holding [ov] (getMethod ov m pl)
      callWith pos f first (backTo pos (starEach [] X.env)) (backToKw pos (keywordEach [] X.env))) := by rfl) :
    PE X (.Call (.Attribute o m apos) [] [] pos) (fun σ H Q => ta σ H fun x H1 => ∃ a dx fs, x = .ref a ∧ H1 a = some (.ins C dx fs) ∧ fs.lookup m = none ∧ sp σ [x] H1 Q (E σ)) := by
  refine ⟨fun pins s σ H Q I h => ?_⟩
  refine PySem.W.methodCall_KW (pl := pl) (thn (he.run pins s σ H _ I h) fun u s1 ⟨x, H1, I1, rx, a, dx, fs, ex, ea, l, q⟩ => ?_) ht
  subst ex
  obtain rfl : u = Value.ref a := rx
  refine getmeth_ok I1 ea c hm l ?_
  exact PySem.W.callWith_K0 (first := [.ref a]) I1.kIn hm.kp (run pins σ H1 s1 Q [.ref a] [.ref a] I1 (.cons rfl .nil) q)
theorem cMethC {pl : Sem Bool} (C : CalleeM CX X.prog X.w X.K X.mg X.base ct k nm m ps g) (c : KCls X.K nm) (px : ∀ σ, PassesAt CX X σ (E σ)) (hr : Room k X.A) (gd : X.A.guards = some []) (ho : PE X o (tF (gx X ct) E fo)) (ha : PA X (e :: es) (tA (gx X ct) E fa)) (hn : ps.length = n := by rfl)
    (hst : starEach (e :: es) X.env = (false, eval e X.env) :: starEach es X.env := by rfl) (hpl : (backTo pos (starEach es X.env)).any (·.1) = false := by rfl)
    (ht : eval (.Call (.Attribute o m apos) (e :: es) [] pos) X.env = (do
      let ov ← eval o X.env
      standAt apos.atName
      let (f, first) ← holding [ov] (getMethod ov m pl)
      callWith pos f first (backTo pos (starEach (e :: es) X.env)) (backToKw pos (keywordEach [] X.env))) := by rfl) :
    PE X (.Call (.Attribute o m apos) (e :: es) [] pos) (tF (gx X ct) E (fMethC nm m n g fo fa)) := by
  obtain ⟨f, fd, F, hm, bn⟩ := C
  subst hn
  refine PEw (pe_methG (fd := fd) (sp := fun _ => spG (gx X ct) ps.length g) (E := E) ho c hm (fun pins σ H s Q us vs I r q => run_E F hr gd bn (px σ) I r q) ha hst hpl ht) fun σ H Q ⟨η, ρ, S, rp, er, h⟩ => ?_
  refine ⟨η, ρ, S, rp, er, FinR.mono (FinR.bind (rel := relW (gx X ct)) h) fun x H1 ⟨η1, wo, S1, f1, rp1, r1, h1⟩ => ?_⟩
  by_cases hb : isOb nm m wo S1 = true
  · rw [if_pos hb] at h1
    obtain ⟨a, dx, vs, rfl, j1, j2⟩ := isOb_at hb rp1 r1
    refine ⟨a, dx, vs, rfl, j1, j2, η1, ρ, S1, rp1, er.fu f1, FinR.mono (FinR.bind (rel := relL (gx X ct)) h1) fun ys H2 ⟨η2, ws, S2, f2, rp2, r2, h2⟩ => ?_⟩
    by_cases hw : ws.length + 1 = ps.length
    · rw [if_pos hw] at h2
      exact ⟨by rw [List.length_cons, ← r2.length]; exact hw, η2, S2, wo :: ws, rp2, .cons (RepW.fu f2 _ _ r1) r2, FinR.frz rp2 h2⟩
    · rw [if_neg hw] at h2; exact h2.elim
  · rw [if_neg hb] at h1; exact h1.elim
theorem cMethCL {pl : Sem Bool} (C : CalleeM CX X.prog X.w X.K X.mg X.base ct k nm m ps g) (c : KCls X.K nm) (px : ∀ σ, PassesAt CX X σ (E σ)) (hr : Room k X.A) (gd : X.A.guards = some []) (ho : PE X o (tF (gx X ct) E fo)) (ha : PA X (e :: es) (tA (gx X ct) E fa)) (hn : ps.length = n := by rfl)
    (hst : starEach (e :: es) X.env = (false, eval e X.env) :: starEach es X.env := by rfl) (hpl : (backTo pos (starEach es X.env)).any (·.1) = false := by rfl)
    (ht : eval (.Call (.Attribute o m apos) (e :: es) [] pos) X.env = (do
      let ov ← eval o X.env
      standAt apos.atName
      let (f, first) ← holding [ov] (getMethod ov m pl)
      callWith pos f first (backTo pos (starEach (e :: es) X.env)) (backToKw pos (keywordEach [] X.env))) := by rfl) :
    PE X (.Call (.Attribute o m apos) (e :: es) [] pos) (tF (gx X ct) E (fMethCL nm m n g fo fa)) := by
  obtain ⟨f, fd, F, hm, bn⟩ := C
  subst hn
  refine PEw (pe_methG (fd := fd) (sp := fun _ => spG (gx X ct) ps.length g) (E := E) ho c hm (fun pins σ H s Q us vs I r q => run_E F hr gd bn (px σ) I r q) ha hst hpl ht) fun σ H Q ⟨η, ρ, S, rp, er, h⟩ => ?_
  refine ⟨η, ρ, S, rp, er, FinR.mono (FinR.bind (rel := relW (gx X ct)) h) fun x H1 ⟨η1, wo, S1, f1, rp1, r1, h1⟩ => ?_⟩
  by_cases hb : isOb nm m wo S1 = true
  · rw [if_pos hb] at h1
    obtain ⟨a, dx, vs, rfl, j1, j2⟩ := isOb_at hb rp1 r1
    refine ⟨a, dx, vs, rfl, j1, j2, η1, ρ, S1, rp1, er.fu f1, FinR.mono (FinR.bind (rel := relL (gx X ct)) h1) fun ys H2 ⟨η2, ws, S2, f2, rp2, r2, h2⟩ => ?_⟩
    by_cases hw : ws.length + 1 = ps.length
    · rw [if_pos hw] at h2
      exact ⟨by rw [List.length_cons, ← r2.length]; exact hw, η2, S2, wo :: ws, rp2, .cons (RepW.fu f2 _ _ r1) r2, h2⟩
    · rw [if_neg hw] at h2; exact h2.elim
  · rw [if_neg hb] at h1; exact h1.elim
/-- without arguments -/
def fMethC0 (nm m : Str) (g : List W → Store → R W) (fo : FE) : FE := fun ρ S => (fo ρ S).bind fun o S1 => if isOb nm m o S1 = true then frz S1.length (g [o] S1) else .bad
def fMethC0L (nm m : Str) (g : List W → Store → R W) (fo : FE) : FE := fun ρ S => (fo ρ S).bind fun o S1 => if isOb nm m o S1 = true then g [o] S1 else .bad
theorem cMethC0 {pl : Sem Bool} (C : CalleeM CX X.prog X.w X.K X.mg X.base ct k nm m ps g) (c : KCls X.K nm) (px : ∀ σ, PassesAt CX X σ (E σ)) (hr : Room k X.A) (gd : X.A.guards = some []) (ho : PE X o (tF (gx X ct) E fo)) (hn : ps.length = 1 := by rfl)
    (ht : eval (.Call (.Attribute o m apos) [] [] pos) X.env = (do
      let ov ← eval o X.env
      standAt apos.atName
      let (f, first) ← holding [ov] (getMethod ov m pl)
      callWith pos f first (backTo pos (starEach [] X.env)) (backToKw pos (keywordEach [] X.env))) := by rfl) :
    PE X (.Call (.Attribute o m apos) [] [] pos) (tF (gx X ct) E (fMethC0 nm m g fo)) := by
  obtain ⟨f, fd, F, hm, bn⟩ := C
  refine PEw (pe_methG0 (fd := fd) (sp := fun _ => spG (gx X ct) ps.length g) (E := E) ho c hm (fun pins σ H s Q us vs I r q => run_E F hr gd bn (px σ) I r q) ht) fun σ H Q ⟨η, ρ, S, rp, er, h⟩ => ?_
  refine ⟨η, ρ, S, rp, er, FinR.mono (FinR.bind (rel := relW (gx X ct)) h) fun x H1 ⟨η1, wo, S1, f1, rp1, r1, h1⟩ => ?_⟩
  by_cases hb : isOb nm m wo S1 = true
  · rw [if_pos hb] at h1
    obtain ⟨a, dx, vs, rfl, j1, j2⟩ := isOb_at hb rp1 r1
    exact ⟨a, dx, vs, rfl, j1, j2, by rw [hn]; rfl, η1, S1, [wo], rp1, .cons r1 .nil, FinR.frz rp1 h1⟩
  · rw [if_neg hb] at h1; exact h1.elim
theorem cMethC0L {pl : Sem Bool} (C : CalleeM CX X.prog X.w X.K X.mg X.base ct k nm m ps g) (c : KCls X.K nm) (px : ∀ σ, PassesAt CX X σ (E σ)) (hr : Room k X.A) (gd : X.A.guards = some []) (ho : PE X o (tF (gx X ct) E fo)) (hn : ps.length = 1 := by rfl)
    (ht : eval (.Call (.Attribute o m apos) [] [] pos) X.env = (do
      let ov ← eval o X.env
      standAt apos.atName
      let (f, first) ← holding [ov] (getMethod ov m pl)
      callWith pos f first (backTo pos (starEach [] X.env)) (backToKw pos (keywordEach [] X.env))) := by rfl) :
    PE X (.Call (.Attribute o m apos) [] [] pos) (tF (gx X ct) E (fMethC0L nm m g fo)) := by
  obtain ⟨f, fd, F, hm, bn⟩ := C
  refine PEw (pe_methG0 (fd := fd) (sp := fun _ => spG (gx X ct) ps.length g) (E := E) ho c hm (fun pins σ H s Q us vs I r q => run_E F hr gd bn (px σ) I r q) ht) fun σ H Q ⟨η, ρ, S, rp, er, h⟩ => ?_
  refine ⟨η, ρ, S, rp, er, FinR.mono (FinR.bind (rel := relW (gx X ct)) h) fun x H1 ⟨η1, wo, S1, f1, rp1, r1, h1⟩ => ?_⟩
  by_cases hb : isOb nm m wo S1 = true
  · rw [if_pos hb] at h1
    obtain ⟨a, dx, vs, rfl, j1, j2⟩ := isOb_at hb rp1 r1
    exact ⟨a, dx, vs, rfl, j1, j2, by rw [hn]; rfl, η1, S1, [wo], rp1, .cons r1 .nil, h1⟩
  · rw [if_neg hb] at h1; exact h1.elim
end
/-- the defs of a class -/
def MethAt (K : PySem.W.Frag) (nm m qual : Str) (st : Stmt) : Prop := ∃ (f : Addr) (fd : FuncData), FunD K m qual (defArgs st) (defBody st) (defScope st) [] [] f fd ∧ L2.Meth K (He.ga K nm) m f
section
variable {P : Program} {w : World} {K : PySem.W.Frag} {mg : Str → Option Value} {base : Heap} {ct : Nat → Option Addr} {n : Nat} {nm m qual : Str} {st : Stmt} {N ps : List Str} {g : List W → Store → R W} {b : FS}
def BndM (m qual : Str) (st : Stmt) (ps : List Str) : Prop := ∀ (kV doc pm : Value) (an : Option Addr) (cdv cv : Value) (us : List Value), us.length = ps.length → bindArgs (PySem.W.fnOf m qual (defArgs st) (defBody st) (defScope st) .none kV doc pm an cdv cv) ⟨us, []⟩ = pure (ps.zip us)
theorem calleeM_zero (D : MethAt K nm m qual st) (hB : BndM m qual st ps) (h : ∀ ws S, g ws S = .bad) : CalleeM CX0 P w K mg base ct n nm m ps g := by
  obtain ⟨f, fd, F, hm⟩ := D
  exact ⟨f, fd, fnG_zero h, hm, F.bindsN hB⟩
theorem calleeM_succ (D : MethAt K nm m qual st) (hB : BndM m qual st ps) (hS : FnScope N ps (defScope st)) (e : ∀ ws S, g ws S = runB N.length b ws S)
    (h : ∀ (f : Addr) (cdv : Value) (A : Around) (outer : List Env) (s : Shared) (H : Hp) (E : XK), Room n (A.deeper (envOfC qual (defScope st) s.heap.objs.size f cdv)) → A.guards = some [] → PSs (bodyX P w K mg base N qual (defScope st) f cdv A outer s H E) (defBody st) (tS ⟨K, ct⟩ NX b)) :
    CalleeM CX0 P w K mg base ct (n + 1) nm m ps g := by
  obtain ⟨f, fd, F, hm⟩ := D
  exact ⟨f, fd, FunD.okG F hS fun cdv A outer s H E r gd => ⟨b, fun ws S _ => e ws S, h f cdv A outer s H E r gd⟩, hm, F.bindsN hB⟩
end
end VI
set_option Elab.async false
set_option linter.all false
set_option maxRecDepth 100000
namespace VI
open PySem PySem.Spec PyProof.Rows L2

/-! instances made: __init__ puts what it is told in fields -/
def goI (ρ : Rho) : List (Str × FE) → List (Str × W) → Store → R (List (Str × W))
  | [], fs, S => .ok fs S
  | (f, e) :: r, fs, S => (e ρ S).bind fun w S1 => goI ρ r (putW f w fs) S1
theorem fw_ins {η : List Addr} {H : Hp} {a C dx : Addr} {vs vs' : List (Str × V)} (h : H a = some (.ins C dx vs)) : Fw η H η (upd H a (.ins C dx vs')) := by
  refine ⟨⟨[], by simp⟩, fun a h => .inl h, fun b xs q => ?_, fun b ob v q => ?_, fun b xs _ i q => ?_⟩
  · rw [upd_ne]
    · exact q
    · rintro rfl; rw [h] at q; cases q
  · rw [upd_ne]
    · exact q
    · rintro rfl; rw [h] at q; cases q
  · rw [upd_ne]
    · exact q
    · rintro rfl; rw [h] at q; cases q; exact i.elim
theorem Rp.ins {K : PySem.W.Frag} {η : List Addr} {H : Hp} {S : Store} {a C dx : Addr} {vs vs' : List (Str × V)} (r : Rp K η H S) (h : H a = some (.ins C dx vs)) (n : a ∉ η) : Rp K η (upd H a (.ins C dx vs')) S :=
  ⟨r.len, r.nd, fun l b so h1 h2 => (r.all l b so h1 h2).fw (fw_ins h) fun u e => by
    rw [upd_ne]
    · exact e
    · rintro rfl; exact n (List.mem_of_getElem? h1), r.wf⟩
/-- a thing that was not there may change -/
theorem Fu.over {η η' : List Addr} {H H' : Hp} {a : Addr} {o : HO} (f : Fu η H η' H') (h : H a = none) (n : a ∉ η') : Fu η H η' (upd H' a o) := by
  refine ⟨f.px, f.nw, fun b q => ?_, fun b xs q => ?_, fun b ob v q => ?_, fun b xs i q => ?_⟩
  · by_cases e : b = a
    · subst e; exact h
    · rw [upd_ne e] at q; exact f.tk b q
  · rw [upd_ne]
    · exact f.tp b xs q
    · rintro rfl; rw [h] at q; cases q
  · rw [upd_ne]
    · exact f.fz b ob v q
    · rintro rfl; rw [h] at q; cases q
  · rw [upd_ne]
    · exact f.ls b xs i q
    · rintro rfl; rw [h] at q; cases q
/-- what the body of an __init__ comes to; η0, H0: ahead of the new instance at a -/
def tInit (G : Gc) (nm : Str) (Z : XK) (L : List (Str × FE)) : TS := fun D σ H => ∃ η0 H0 η ρ S a dx vs fs, Fu η0 H0 η H ∧ H0 a = none ∧ Rp G.K η H S ∧ ERep G.K η H ρ σ ∧ σ[0]? = some (some (.ref a)) ∧ H a = some (.ins (He.ga G.K nm) dx vs) ∧ a ∉ η ∧ fs.map (·.1) = vs.map (·.1) ∧ RepWs G.K η H (fs.map (·.2)) (vs.map (·.2)) ∧ fs.length + L.length < 900 ∧
  (match goI ρ L fs S with
  | .ok fs' S' => ∀ η' H' vs', Fu η0 H0 η' H' → Rp G.K η' H' S' → H' a = some (.ins (He.ga G.K nm) dx vs') → a ∉ η' → fs'.map (·.1) = vs'.map (·.1) → RepWs G.K η' H' (fs'.map (·.2)) (vs'.map (·.2)) → D.nx σ H'
  | .exc c fs' S' => FinX G Z η0 H0 c fs' S'
  | .bad => False)
theorem putW_len (f : Str) (w : W) : ∀ fs : List (Str × W), (putW f w fs).length ≤ fs.length + 1
  | [] => by simp [putW]
  | (a, x) :: r => by
    unfold putW
    split
    · simp
    · have := putW_len f w r
      simp only [List.length_cons]
      omega
section
variable {X : Cx} {ct : Nat → Option Addr} {Z : XK} {nm : Str}
theorem init_nil : PSs X [] (tInit (gx X ct) nm Z []) := PSsw pss_nil fun D σ H ⟨η0, H0, η, ρ, S, a, dx, vs, fs, f0, n0, rp, er, e0, ha, na, h1, h2, _, h⟩ => h η H vs f0 rp ha na h1 h2
theorem init_cons {f : Str} {x : Str} {e : Expr} {fe : FE} {p pos pos' : Pos} {rest : List Stmt} {L : List (Str × FE)} (c : KCls X.K nm) (n : KFld X.K nm f) (he : PE X e (tF (gx X ct) (fun _ => Z) fe)) (hr : PSs X rest (tInit (gx X ct) nm Z L)) (hN : X.N[0]? = some x := by rfl)
    (hv : Vis X.env.scope x := by first | exact Or.inl rfl | exact Or.inr (Or.inl rfl) | exact Or.inr (Or.inr rfl)) (hs : swapsWith e (some (.Attribute (.Name x p) f pos')) pos.line X.env = pure false := by rfl) (hd : (x == ("__debug__" : Str)) = false := by decide) (hcd : (x == ("__classdict__" : Str)) = false := by decide) :
    PSs X (.Assign [.Attribute (.Name x p) f pos'] e pos :: rest) (tInit (gx X ct) nm Z ((f, fe) :: L)) := PSsw (pss_cons (ps_fld (pe_var hN hv hd hcd) he hs) hr) fun D σ H ⟨η0, H0, η, ρ, S, a, dx, vs, fs, f0, n0, rp, er, e0, ha, na, h1, h2, hz, h⟩ => by
  rw [List.length_cons] at hz
  refine ⟨η, ρ, S, rp, er, ?_⟩
  have h' : match (fe ρ S).bind fun w S1 => goI ρ L (putW f w fs) S1 with
    | .ok fs' S' => ∀ η' H' vs', Fu η0 H0 η' H' → Rp X.K η' H' S' → H' a = some (.ins (He.ga X.K nm) dx vs') → a ∉ η' → fs'.map (·.1) = vs'.map (·.1) → RepWs X.K η' H' (fs'.map (·.2)) (vs'.map (·.2)) → D.nx σ H'
    | .exc c fs' S' => FinX (gx X ct) Z η0 H0 c fs' S'
    | .bad => False := h
  cases q : fe ρ S with
  | bad => rw [q] at h'; exact h'.elim
  | exc cc fs' S' => rw [q] at h'; exact FinX.fu f0 h'
  | ok w S1 =>
    rw [q] at h'
    intro η1 H1 v f1 rp1 r1
    have na1 : a ∉ η1 := f1.out na ha
    have ha1 := f1.ls _ _ na ha
    have fw := fw_ins (η := η1) (vs' := L2.putF f v vs) ha1
    obtain ⟨p1, p2⟩ := putW_rep (f := f) r1 h1 (RepWs.fu f1 _ _ h2)
    have hz' := putW_len f w fs
    exact ⟨.ref a, e0, a, _, dx, vs, rfl, ha1, c, n, by rw [← len_of h1]; omega, η0, H0, η1, ρ, S1, a, dx, _, putW f w fs, (f0.trans f1).over n0 na1, n0, rp1.ins ha1 na1, (er.fu f1).fw fw, e0, upd_same, na1, p1, RepWs.fw fw p2, by omega, h'⟩
end
/-- what an __init__ promises -/
def spInitO (G : Gc) (nm : Str) (n : Nat) (gi : List W → Store → R (List (Str × W))) : Sp := fun vs H Q E => ∃ η0 H0 η S a dx us ws, vs = .ref a :: us ∧ ws.length + 1 = n ∧ Fu η0 H0 η H ∧ H0 a = none ∧ Rp G.K η H S ∧ RepWs G.K η H ws us ∧ H a = some (.ins (He.ga G.K nm) dx []) ∧ a ∉ η ∧
  (match gi ws S with
  | .ok fs' S' => ∀ η' H' vs', Fu η0 H0 η' H' → Rp G.K η' H' S' → H' a = some (.ins (He.ga G.K nm) dx vs') → a ∉ η' → fs'.map (·.1) = vs'.map (·.1) → RepWs G.K η' H' (fs'.map (·.2)) (vs'.map (·.2)) → Q .non H'
  | .exc c fs' S' => FinX G E η0 H0 c fs' S'
  | .bad => False)
def startI (n : Nat) (ws : List W) : Rho := none :: (ws.map some ++ List.replicate (n - (ws.length + 1)) none)
theorem startI_rep {K : PySem.W.Frag} {η : List Addr} {H : Hp} {N : List Str} {ws : List W} {us : List V} {v : V} (hn : us.length + 1 ≤ N.length) (r : RepWs K η H ws us) : ERep K η H (startI N.length ws) (L2.start N (v :: us)) := by
  have hl := r.length
  unfold startI L2.start
  refine ⟨by simp; omega, fun i w h => ?_⟩
  cases i with
  | zero => cases h
  | succ i =>
    rw [List.getElem?_cons_succ] at h
    by_cases hi : i < ws.length
    · rw [List.getElem?_append_left (by rw [List.length_map]; exact hi), List.getElem?_map] at h
      cases q : ws[i]? with
      | none => rw [q] at h; cases h
      | some u =>
        rw [q] at h
        have z : u = w := Option.some.inj (Option.some.inj h)
        subst z
        obtain ⟨v, e, rv⟩ := r.get q
        refine ⟨v, ?_, rv⟩
        rw [List.map_cons, List.cons_append, List.getElem?_cons_succ, List.getElem?_append_left (by rw [List.length_map, ← r.length]; exact hi), List.getElem?_map, e]
        rfl
    · rw [List.getElem?_append_right (by rw [List.length_map]; omega), List.getElem?_replicate] at h
      split at h <;> cases h
section
variable {P : Program} {w : World} {K : PySem.W.Frag} {mg : Str → Option Value} {base : Heap} {ct : Nat → Option Addr} {nm : Str}
theorem fnI_of {k : Nat} {f : Addr} {name qual : Str} {pr : Arguments} {body : List Stmt} {sc : Scope} {dV kV doc pm cdv ctv oc : Value} {an od : Option Addr} {sl : Array (Option Value)} {N ps : List Str} {L : List (Str × FE)}
    (lk : K.lookup f = some ⟨oc, od, .func (PySem.W.fnOf name qual pr body sc dV kV doc pm an cdv ctv), sl⟩) (hcd : PySem.W.codeIn K cdv qual = true) (hS : FnScope N ps sc) (hps : ps.length ≤ N.length) (hL : L.length < 900)
    (hb : ∀ (A : Around) (outer : List Env) (s : Shared) (H : Hp) (E : XK), Room k (A.deeper (envOfC qual sc s.heap.objs.size f cdv)) → A.guards = some [] →
      PSs (bodyX P w K mg base N qual sc f cdv A outer s H E) body (tInit ⟨K, ct⟩ nm E0 L)) :
    FnG P w K mg base CX0 (k + 1) f (PySem.W.fnOf name qual pr body sc dV kV doc pm an cdv ctv) ps (spInitO ⟨K, ct⟩ nm ps.length fun ws S => noX (goI (startI N.length ws) L [] S)) where
  len := fun vs H Q E ⟨_, _, η, S, a, dx, us, ws, e, hl, _, _, rp, rr, _⟩ => by rw [e, List.length_cons, ← rr.length]; exact hl
  run := by
    intro A outer s H args us0 vs Q E room gd env bnd rel ⟨η0, H0, η, S, a, dx, us, ws, e, hl, f0, n0, rp, rr, ha, na, fin⟩
    subst e
    have hlen : (V.ref a :: us).length = ps.length := by rw [List.length_cons, ← rr.length]; exact hl
    have hin : K.In s.heap := env.mod.kin.keeps fun c o z => (env.bs c o z).1
    have nolim : s.heap.NoLimit := env.mod.nolimit.keeps fun c o z => (env.bs c o z).1
    have kinds : ∀ p ∈ ps.zip us0, sc.names.lookup p.1 = some .local ∨ (sc.names.lookup p.1 = some .cell ∧ ((cellsFrom (s.heap.objs.size + 1) sc.names []).lookup p.1).isSome = true) := by
      rintro ⟨m, u⟩ hm
      rcases hS.par m (List.of_mem_zip hm).1 with z | z
      · exact Or.inl z
      · exact Or.inr ⟨z, PySem.W.cellsFrom_some _ _ _ (Or.inl z)⟩
    refine codeAny_call_function room.depth (hin _ _ lk) rfl hS.co hS.gen rfl (PySem.W.codeRec_of hin hcd) (bnd _ _ _ _ ?_)
    refine wpAny_newFunctionEnv_cells hS.kind kinds fun en hen t1 tx => ?_
    subst hen
    refine ⟨nolim.keeps tx.toInCall.keep, codeAny_func ?_⟩
    have hbody := hb A outer s H E (room.deeper _) gd
    have inv0 := inv_start (CX := CX0) (E := E) hS room.hd env hlen rel tx
    have pre : tInit ⟨K, ct⟩ nm E0 L { nx := fun _ H' => Q .non H', rt := Q } (L2.start N (.ref a :: us)) H := by
      refine ⟨η0, H0, η, startI N.length ws, S, a, dx, [], [], f0, n0, rp, startI_rep (by rw [List.length_cons] at hlen; omega) rr, rfl, ha, na, rfl, .nil, by rw [List.length_nil]; omega, ?_⟩
      cases eb : goI (startI N.length ws) L [] S with
      | ok fs' S' => simp only [eb, noX] at fin ⊢; exact fin
      | exc c fs' S' => simp only [eb, noX] at fin
      | bad => simp only [eb, noX] at fin
    refine wpAny_mono ((PSs.nox hbody).run [] t1 (L2.start N (.ref a :: us)) H _ inv0 pre) (fun fl t2 hf => ?_) fun e t2 hf => hf
    cases fl with
    | ret u =>
      obtain ⟨v, σ2, H2, J, rv, q⟩ := hf
      exact ⟨v, H2, J.os, J.bare, J.base, J.hok, rv, q⟩
    | next =>
      obtain ⟨σ2, H2, J, q⟩ := hf
      exact ⟨V.non, H2, J.os, J.bare, J.base, J.hok, rfl, q⟩
    | brk => exact False.elim (let ⟨_, _, _, q⟩ := hf; q)
    | cont => exact False.elim (let ⟨_, _, _, q⟩ := hf; q)
theorem FunD.okI {x qual : Str} {pr : Arguments} {body : List Stmt} {sc : Scope} {dvs : List V} {kws : List (Str × V)} {f : Addr} {fd : FuncData} {N ps : List Str} {k : Nat} {L : List (Str × FE)} (F : FunD K x qual pr body sc dvs kws f fd) (hS : FnScope N ps sc) (hps : ps.length ≤ N.length) (hL : L.length < 900)
    (hb : ∀ (cdv : Value) (A : Around) (outer : List Env) (s : Shared) (H : Hp) (E : XK), Room k (A.deeper (envOfC qual sc s.heap.objs.size f cdv)) → A.guards = some [] → PSs (bodyX P w K mg base N qual sc f cdv A outer s H E) body (tInit ⟨K, ct⟩ nm E0 L)) :
    FnG P w K mg base CX0 (k + 1) f fd ps (spInitO ⟨K, ct⟩ nm ps.length fun ws S => noX (goI (startI N.length ws) L [] S)) := by
  obtain ⟨oc, od, dV, kV, doc, pm, an, cdv, cv, sl, rfl, lk, hcd, _, _⟩ := F.ex
  exact fnI_of lk hcd hS hps hL fun A outer s H E r gd => hb cdv A outer s H E r gd
end
/-! C(..) -/
theorem make_guards {A : Around} {C : Addr} {us : List Value} {kw : List (Str × Value)} : (A.under (.builtin "type.__call__" ⟨.ref C :: us, kw⟩)).guards = A.guards := by
  first | rfl | simp [Around.under, Code.weight, Code.isCreation, Code.isGuard, Code.isCaller, Code.frames, Code.isFrame, guardIds]
/-- the class nm, made by an __init__ that does gi -/
def CalleeI (P : Program) (w : World) (K : PySem.W.Frag) (mg : Str → Option Value) (base : Heap) (ct : Nat → Option Addr) (k : Nat) (nm : Str) (n : Nat) (gi : List W → Store → R (List (Str × W))) : Prop :=
  ∃ (f : Addr) (fd : FuncData) (ps : List Str), FnG P w K mg base CX0 k f fd ps (spInitO ⟨K, ct⟩ nm n gi) ∧ L2.Mk K (He.ga K nm) f ∧ mg nm = some (.ref (He.ga K nm)) ∧ Binds K fd ps []
def mkOb (nm : Str) (n : Nat) (gi : List W → Store → R (List (Str × W))) (ws : List W) (S : Store) : R W := if ws.length + 1 = n then (gi ws S).bind fun fs S2 => if locsBs S2.length (fs.map (·.2)) = true then .ok (.loc S2.length) (S2 ++ [.ob nm fs]) else .bad else .bad
def fMk (nm : Str) (n : Nat) (gi : List W → Store → R (List (Str × W))) (fa : FA) : FE := fun ρ S => (fa ρ S).bind fun ws S1 => mkOb nm n gi ws S1
section
variable {X : Cx} {ct : Nat → Option Addr} {E : EX} {k n : Nat} {nm : Str} {gi : List W → Store → R (List (Str × W))} {e : Expr} {es : List Expr} {p pos : Pos} {fa : FA}
theorem run_mk {C f : Addr} {fd : FuncData} {ps : List Str} {sp : Sp} {Z : XK} {pins : List (Addr × Obj)} {σ : L2.St} {H : Hp} {s : Shared} {Q : VK} {us : List Value} {vs : List V} (M : L2.Mk X.K C f) (F : FnG X.prog X.w X.K X.mg X.base CX0 k f fd ps sp) (hr : Room (k + 1) X.A) (gd : X.A.guards = some []) (hb : Binds X.K fd ps [])
    (I : Inv X pins σ H s) (r : Vals vs us)
    (h : ∀ x dx, H x = none → H dx = none → dx ≠ x → sp (.ref x :: vs) (upd (upd H dx (.own x)) x (.ins C dx [])) (fun v H2 => v = .non ∧ Q (.ref x) H2) Z) :
    wpAny (model X.prog X.w) X.A (call (.ref C) us) (EP X pins σ Q) X.xe s := by
  have hq := h (s.heap.objs.size + 1) s.heap.objs.size (I.hok.fresh (Nat.le_succ _)) (I.hok.fresh (Nat.le_refl _)) (Nat.ne_of_lt (Nat.lt_succ_self _))
  have I2 := Inv.made (C := C) I
  have r2 : Vals (V.ref (s.heap.objs.size + 1) :: vs) (Value.ref (s.heap.objs.size + 1) :: us) := .cons rfl r
  have hl : ((Value.ref (s.heap.objs.size + 1) :: us) ++ []).length = ps.length := by
    have e := r2.length
    rw [F.len _ _ _ _ hq] at e
    rw [List.append_nil]
    exact e.symm
  have bs := hb _ (Value.ref (s.heap.objs.size + 1) :: us) I2.kIn hl
  rw [List.append_nil] at bs
  refine wpAny_call (make_map (f := f) I.kIn M.makes M.init (beq_iff_eq.mp M.fn) (codeAny_mono (F.run _ X.stack _ _ ⟨Value.ref (s.heap.objs.size + 1) :: us, []⟩ (Value.ref (s.heap.objs.size + 1) :: us) _ _ Z (hr.make C us []) (by rw [make_guards]; exact gd)
    (I2.env0.make C us []) bs r2 hq) fun r s' hq' => ?_))
  cases r with
  | error e => exact hq'.elim
  | ok fl =>
    cases fl with
    | ret u =>
      obtain ⟨v, H', I3, rv, ev, q3⟩ := I2.after hq'
      subst ev
      exact ⟨rv, ⟨V.ref (s.heap.objs.size + 1), H', I3, rfl, q3⟩⟩
    | next => exact False.elim hq'
    | brk => exact False.elim hq'
    | cont => exact False.elim hq'
theorem run_mkOb (C : CalleeI X.prog X.w X.K X.mg X.base ct k nm n gi) (hr : Room (k + 1) X.A) (gd : X.A.guards = some []) {Z : XK} {η : List Addr} {S : Store} {ws : List W} {pins : List (Addr × Obj)} {σ : L2.St} {H : Hp} {s : Shared} {Q : VK} {us : List Value} {vs : List V} (I : Inv X pins σ H s) (r : Vals vs us)
    (rp : Rp X.K η H S) (rr : RepWs X.K η H ws vs) (h : FinP (gx X ct) Z η H (mkOb nm n gi ws S) Q) (hnx : ∀ c fs S', gi ws S ≠ .exc c fs S') : wpAny (model X.prog X.w) X.A (call (.ref (He.ga X.K nm)) us) (EP X pins σ Q) X.xe s := by
  obtain ⟨f, fd, ps, F, M, m, bn⟩ := C
  refine run_mk (Z := E0) M F hr gd bn I r fun x dx hx hd hne => ?_
  unfold mkOb at h
  by_cases hn : ws.length + 1 = n
  · rw [if_pos hn] at h
    have hd' : upd H dx (.own x) x = none := by rw [upd_ne (Ne.symm hne)]; exact hx
    have f1 : Fu η H η (upd H dx (.own x)) := fu_new hd
    have f2 : Fu η (upd H dx (.own x)) η (upd (upd H dx (.own x)) x (.ins (He.ga X.K nm) dx [])) := fu_new hd'
    refine ⟨η, H, η, S, x, dx, vs, ws, rfl, hn, f1.trans f2, hx, (rp.new hd).new hd', RepWs.fu (f1.trans f2) _ _ rr, upd_same, rp.notin hx, ?_⟩
    cases q : gi ws S with
    | bad => rw [q] at h; exact h.elim
    | exc c fs' S' => exact (hnx _ _ _ q).elim
    | ok fs' S' =>
      rw [q] at h
      intro η' H' vs' ff rp' hx' nx' e1 e2
      have h' : FinP (gx X ct) Z η H (if locsBs S'.length (fs'.map (·.2)) = true then .ok (.loc S'.length) (S' ++ [.ob nm fs']) else .bad) Q := h
      by_cases hl : locsBs S'.length (fs'.map (·.2)) = true
      · rw [if_pos hl] at h'
        -- the new instance goes live
        have ff2 : Fu η H (η' ++ [x]) H' := by
          obtain ⟨r, er⟩ := ff.px
          refine ⟨⟨r ++ [x], by rw [er, List.append_assoc]⟩, fun a m => ?_, ff.tk, ff.tp, ff.fz, ff.ls⟩
          rcases List.mem_append.mp m with m | m
          · exact ff.nw a m
          · rw [List.mem_singleton.mp m]; exact .inr hx
        have fx : Fw η' H' (η' ++ [x]) H' := by
          refine ⟨⟨[x], rfl⟩, fun a m => ?_, fun _ _ h => h, fun _ _ _ h => h, fun _ _ _ _ h => h⟩
          rcases List.mem_append.mp m with m | m
          · exact .inl m
          · rw [List.mem_singleton.mp m]
            refine .inr fun o i e => ?_
            rw [hx'] at e
            cases e
            exact i
        have rp2 : Rp X.K (η' ++ [x]) H' (S' ++ [.ob nm fs']) := by
          refine ⟨by rw [List.length_append, List.length_append, rp'.len]; rfl, ?_, fun l a so h1 h2 => ?_, fun l so h2 => ?_⟩
          · refine List.nodup_append.mpr ⟨rp'.nd, by simp, fun a ha b hb => ?_⟩
            rw [List.mem_singleton.mp hb]
            exact fun e => nx' (e ▸ ha)
          · by_cases hl2 : l < S'.length
            · rw [List.getElem?_append_left (by rw [rp'.len]; exact hl2)] at h1
              rw [List.getElem?_append_left hl2] at h2
              exact (rp'.all l a so h1 h2).fw fx fun u e => e
            · have e : l = S'.length := by
                have := (List.getElem?_eq_some_iff.mp h2).1
                rw [List.length_append] at this
                simp at this
                omega
              subst e
              rw [List.getElem?_append_right (by rw [rp'.len]; exact Nat.le_refl _), rp'.len] at h1
              rw [List.getElem?_append_right (Nat.le_refl _)] at h2
              simp at h1 h2
              subst h1 h2
              exact ⟨dx, vs', hx', e1, RepWs.fw fx e2⟩
          · by_cases hl2 : l < S'.length
            · rw [List.getElem?_append_left hl2] at h2
              exact rp'.wf l so h2
            · have e : l = S'.length := by
                have := (List.getElem?_eq_some_iff.mp h2).1
                rw [List.length_append] at this
                simp at this
                omega
              subst e
              rw [List.getElem?_append_right (Nat.le_refl _)] at h2
              simp at h2
              subst h2
              exact hl
        exact ⟨rfl, h' (η' ++ [x]) H' (.ref x) ff2 rp2 (.loc (by rw [← rp'.len]; simp))⟩
      · rw [if_neg hl] at h'; exact h'.elim
  · rw [if_neg hn] at h; exact h.elim
theorem noX_ne {α : Type} {r : R α} {c : Nat} {fs : List (Str × W)} {S : Store} : noX r ≠ .exc c fs S := by
  cases r <;> intro h <;> cases h
theorem cMk {gi : List W → Store → R (List (Str × W))} (C : CalleeI X.prog X.w X.K X.mg X.base ct k nm n gi) (hr : Room (k + 1) X.A) (gd : X.A.guards = some []) (hnx : ∀ ws S c fs S', gi ws S ≠ .exc c fs S') (ha : PA X (e :: es) (tA (gx X ct) E fa)) (hg : Gl X nm := by rfl) (hdb : (nm == ("__debug__" : Str)) = false := by decide)
    (he : starEach (e :: es) X.env = (false, eval e X.env) :: starEach es X.env := by rfl) (hpl : (backTo pos (starEach es X.env)).any (·.1) = false := by rfl) :
    PE X (.Call (.Name nm p) (e :: es) [] pos) (tF (gx X ct) E (fMk nm n gi fa)) := by
  have C' := C
  obtain ⟨f, fd, ps, F, M, m, bn⟩ := C'
  refine ⟨fun pins s σ H Q I ⟨η, ρ, S, rp, er, h⟩ => ?_⟩
  refine wpAny_Call_Name_kw (ld_glob I hg m ?_ hdb)
  refine PySem.W.callWith_K (h₀ := X.base) I.ok.mod.kin M.kp (thn (ha.run pos pins s σ H _ I ⟨η, ρ, S, rp, er, FinR.bind (rel := relL (gx X ct)) h⟩) fun us s1 ⟨vs, H1, I1, r, η1, ws, S1, f1, rp1, r1, h1⟩ => ⟨I1.kIn, ?_⟩) he hpl
  exact run_mkOb C hr gd I1 r rp1 r1 h1 (hnx ws S1)
theorem cMk0 {gi : List W → Store → R (List (Str × W))} (C : CalleeI X.prog X.w X.K X.mg X.base ct k nm n gi) (hr : Room (k + 1) X.A) (gd : X.A.guards = some []) (hnx : ∀ ws S c fs S', gi ws S ≠ .exc c fs S') (hg : Gl X nm := by rfl) (hdb : (nm == ("__debug__" : Str)) = false := by decide) :
    PE X (.Call (.Name nm p) [] [] pos) (tF (gx X ct) E (fMk nm n gi fA0)) := by
  have C' := C
  obtain ⟨f, fd, ps, F, M, m, bn⟩ := C'
  refine ⟨fun pins s σ H Q I ⟨η, ρ, S, rp, er, h⟩ => ?_⟩
  refine wpAny_Call_Name_kw (ld_glob I hg m ?_ hdb)
  have h1 : FinP (gx X ct) (E σ) η H (mkOb nm n gi [] S) Q := h
  exact PySem.W.callWith_K0 I.kIn M.kp (run_mkOb (us := []) C hr gd I .nil rp .nil h1 (hnx [] S))
end
/-- the class's facts -/
def InitAt (K : PySem.W.Frag) (mg : Str → Option Value) (nm qual : Str) (st : Stmt) : Prop := ∃ (f : Addr) (fd : FuncData), FunD K "__init__" qual (defArgs st) (defBody st) (defScope st) [] [] f fd ∧ L2.Mk K (He.ga K nm) f ∧ mg nm = some (.ref (He.ga K nm))
section
variable {P : Program} {w : World} {K : PySem.W.Frag} {mg : Str → Option Value} {base : Heap} {ct : Nat → Option Addr} {k n : Nat} {nm qual : Str} {st : Stmt} {N ps : List Str} {L : List (Str × FE)}
theorem spI_zero {G : Gc} {vs : List V} {H : Hp} {Q : VK} {E : XK} (h : spInitO G nm n (fun _ _ => R.bad) vs H Q E) : False := by
  obtain ⟨_, _, _, _, _, _, _, _, _, _, _, _, _, _, _, _, h⟩ := h
  exact h
theorem calleeI_zero (D : InitAt K mg nm qual st) (hB : BndM "__init__" qual st ps) : CalleeI P w K mg base ct k nm n (fun _ _ => R.bad) := by
  obtain ⟨f, fd, F, M, m⟩ := D
  exact ⟨f, fd, ps, ⟨fun vs H Q E h => (spI_zero h).elim, fun A outer s H args us vs Q E _ _ _ _ _ h => (spI_zero h).elim⟩, M, m, F.bindsN hB⟩
theorem calleeI_succ (D : InitAt K mg nm qual st) (hB : BndM "__init__" qual st ps) (hS : FnScope N ps (defScope st)) (hps : ps.length ≤ N.length) (hL : L.length < 900) (hn : ps.length = n)
    (h : ∀ (f : Addr) (cdv : Value) (A : Around) (outer : List Env) (s : Shared) (H : Hp) (E : XK), Room k (A.deeper (envOfC qual (defScope st) s.heap.objs.size f cdv)) → A.guards = some [] → PSs (bodyX P w K mg base N qual (defScope st) f cdv A outer s H E) (defBody st) (tInit ⟨K, ct⟩ nm E0 L)) :
    CalleeI P w K mg base ct (k + 1) nm n (fun ws S => noX (goI (startI N.length ws) L [] S)) := by
  obtain ⟨f, fd, F, M, m⟩ := D
  subst hn
  exact ⟨f, fd, ps, FunD.okI F hS hps hL fun cdv A outer s H E r gd => h f cdv A outer s H E r gd, M, m, F.bindsN hB⟩
end
end VI
set_option Elab.async false
set_option linter.all false
set_option maxRecDepth 100000
set_option maxHeartbeats 4000000
namespace VI
open PySem PySem.Spec PyProof.Rows L2

/-! one reading or another: what a reading comes to is told ahead -/
def orE (f g : FE) : FE := fun ρ S => match f ρ S with
  | .bad => g ρ S
  | r => r
def orS (f g : FS) : FS := fun ρ S => match f ρ S with
  | .bad => g ρ S
  | r => r
def orO2 (g h : W → W → Store → O) : W → W → Store → O := fun a b S => orO (g a b S) (h a b S)
section
variable {X : Cx} {ct : Nat → Option Addr} {E : EX}
theorem i_orE {e : Expr} {f g : FE} (h1 : PE X e (tF (gx X ct) E f)) (h2 : PE X e (tF (gx X ct) E g)) : PE X e (tF (gx X ct) E (orE f g)) := ⟨fun pins s σ H Q I ⟨η, ρ, S, rp, er, h⟩ => by
  unfold orE at h
  cases q : f ρ S with
  | bad => rw [q] at h; exact h2.run pins s σ H Q I ⟨η, ρ, S, rp, er, h⟩
  | ok w S' => rw [q] at h; exact h1.run pins s σ H Q I ⟨η, ρ, S, rp, er, by rw [q]; exact h⟩
  | exc c fs S' => rw [q] at h; exact h1.run pins s σ H Q I ⟨η, ρ, S, rp, er, by rw [q]; exact h⟩⟩
theorem s_or {e : Stmt} {f g : FS} (h1 : PS X e (tS (gx X ct) E f)) (h2 : PS X e (tS (gx X ct) E g)) : PS X e (tS (gx X ct) E (orS f g)) := ⟨fun pins s σ H D I ⟨η, ρ, S, rp, er, h⟩ => by
  unfold orS at h
  cases q : f ρ S with
  | bad => rw [q] at h; exact h2.run pins s σ H D I ⟨η, ρ, S, rp, er, h⟩
  | next _ _ => rw [q] at h; exact h1.run pins s σ H D I ⟨η, ρ, S, rp, er, by rw [q]; exact h⟩
  | ret _ _ => rw [q] at h; exact h1.run pins s σ H D I ⟨η, ρ, S, rp, er, by rw [q]; exact h⟩
  | brk _ _ => rw [q] at h; exact h1.run pins s σ H D I ⟨η, ρ, S, rp, er, by rw [q]; exact h⟩
  | cnt _ _ => rw [q] at h; exact h1.run pins s σ H D I ⟨η, ρ, S, rp, er, by rw [q]; exact h⟩
  | exc _ _ _ _ => rw [q] at h; exact h1.run pins s σ H D I ⟨η, ρ, S, rp, er, by rw [q]; exact h⟩⟩
/-- two values: one way or another -/
theorem i_or2 {e : Expr} {g g' : W → W → Store → O} {a b : FE} (h1 : PE X e (tF (gx X ct) E (f2 g a b))) (h2 : PE X e (tF (gx X ct) E (f2 g' a b))) : PE X e (tF (gx X ct) E (f2 (orO2 g g') a b)) := ⟨fun pins s σ H Q I ⟨η, ρ, S, rp, er, h⟩ => by
  have way : f2 (orO2 g g') a b ρ S = f2 g a b ρ S ∨ f2 (orO2 g g') a b ρ S = f2 g' a b ρ S := by
    unfold f2
    cases a ρ S with
    | bad => exact .inl rfl
    | exc _ _ _ => exact .inl rfl
    | ok x S1 =>
      simp only [R.bind]
      cases b ρ S1 with
      | bad => exact .inl rfl
      | exc _ _ _ => exact .inl rfl
      | ok y S2 =>
        simp only [orO2, orO]
        cases q : g x y S2 with
        | none => exact .inr rfl
        | some o => exact .inl rfl
  rcases way with z | z
  · rw [z] at h; exact h1.run pins s σ H Q I ⟨η, ρ, S, rp, er, h⟩
  · rw [z] at h; exact h2.run pins s σ H Q I ⟨η, ρ, S, rp, er, h⟩⟩
def gIxA : W → W → Store → O := orO2 gDget gIx
theorem i_ixA {a b : Expr} {fa fb : FE} {pos : Pos} (hu : X.A.units + 1 < cLine) (ha : PE X a (tF (gx X ct) E fa)) (hb : PE X b (tF (gx X ct) E fb)) (hn : NoSl b := by intro _ _; rfl) (hs : PlainIx b := by intro _ _; rfl) : PE X (.Subscript a b pos) (tF (gx X ct) E (f2 gIxA fa fb)) :=
  i_or2 (i_dgetL hu ha hb hn) (i_ix ha hb hs)
/-- +, to be changed later, of lists alone -/
def gAddLL : W → W → Store → O := fun a b S => match gAddL a b S with
  | some o => some o
  | none => gAdd a b S
theorem sim_addLL : OpR X (binaryOp .Add) (Sim2 X ct gAddLL) := OpR.orElse sim_addL sim_add
end
/-! xs[a:c] = ys -/
section
variable {X : Cx} {ct : Nat → Option Addr} {E : EX}
theorem pg_slice {o lo hi : Expr} {to tl th : TE} {pos p2 : Pos} (ho : PE X o to) (hl : PE X lo tl) (hh : PE X hi th)
    (ha : ∀ v, assign (.Subscript o (.Slice (some lo) (some hi) none p2) pos) X.env v = (do
      let ov ← holding [v] (eval o X.env)
      let iv ← holding [v, ov] (eval (.Slice (some lo) (some hi) none p2) X.env)
      standAt pos
      holding [v, ov, iv] (setItem ov iv v)
      release [iv, v, ov] []) := by intro _; rfl) : PG X (.Subscript o (.Slice (some lo) (some hi) none p2) pos) (fun v σ H Q => to σ H fun x H1 => tl σ H1 fun y H2 => th σ H2 fun z H3 =>
      ∃ (l b : Addr) (xs ys : List V) (a c : Int), x = .ref l ∧ v = .ref b ∧ y = .int a ∧ z = .int c ∧ H3 l = some (.lst xs) ∧ H3 b = some (.lst ys) ∧ l ≠ b ∧ 0 ≤ a ∧ a ≤ c ∧ c ≤ xs.length ∧ xs.length + ys.length ≤ sizeLine ∧ Q σ (upd H3 l (.lst (xs.take a.toNat ++ ys ++ xs.drop c.toNat)))) := by
  refine ⟨fun pins s σ H v u Q I r h => ?_⟩
  rw [ha]
  refine wpAny_bind (wpAny_holding (thn (ho.run pins s σ H _ I h) fun ov s1 ⟨x, H1, I1, r1, q1⟩ => ?_))
  refine wpAny_bind (wpAny_holding (wpAny_Slice ?_))
  rw [evalPart_some, evalPart_some]
  refine thn (hl.run pins s1 σ H1 _ I1 q1) fun vl s2 ⟨y, H2, I2, r2, q2⟩ => thn (hh.run pins s2 σ H2 _ I2 q2) fun vu s3 ⟨z, H3, I3, r3, q3⟩ => ?_
  rw [evalPart_none]
  refine wpAny_pure ?_
  have I4 : Inv X pins σ H3 { s3 with heap := s3.heap.push { cls := .type "slice", data := .fields #[vl, vu, .none] } } := I3.kept (t' := s3.toks) fun b ob q => Heap.get?_push_of_some _ q
  obtain ⟨l, b, xs, ys, a, c, rfl, rfl, rfl, rfl, k1, k2, k3, k4, k5, k6, k7, q4⟩ := q3
  cases r1
  cases r
  refine wpAny_bind (wpAny_standAt (wpAny_bind (wpAny_holding ?_)))
  exact set_slice I4 k1 k2 k3 (Heap.IsSliceOf.new ..) r2 r3 k4 k5 k6 k7 fun s' I' => wpAny_release ⟨σ, _, I', q4⟩
def gSetSl (o a c v : W) (S : Store) : Option Store := match o, a, c, v with
  | .loc l, .d (.int i), .d (.int j), .d (.list ys) => match S[l]? with
    | some (.lst xs) => if 0 ≤ i ∧ i ≤ j ∧ j ≤ xs.length ∧ xs.length + ys.length ≤ lim then some (S.set l (.lst (xs.take i.toNat ++ ys ++ xs.drop j.toNat))) else none
    | _ => none
  | _, _, _, _ => none
def fStoreSl (fv fo fl fh : FE) : FS := fun ρ S => toS ρ (fv ρ S) fun v S1 => toS ρ (fo ρ S1) fun o S2 => toS ρ (fl ρ S2) fun a S3 => toS ρ (fh ρ S3) fun c S4 => match gSetSl o a c v S4 with
  | some S5 => .next ρ S5
  | none => .bad
theorem setSl_key {K : PySem.W.Frag} {η : List Addr} {H : Hp} {S S' : Store} {wo wa wc wv : W} {o a c v : V} {P : Hp → Prop} (e : gSetSl wo wa wc wv S = some S') (rp : Rp K η H S) (ro : RepW K η H wo o) (ra : RepW K η H wa a) (rc : RepW K η H wc c) (rv : RepW K η H wv v)
    (h : ∀ η' H', Fu η H η' H' → Rp K η' H' S' → P H') : ∃ (l b : Addr) (xs ys : List V) (i j : Int), o = .ref l ∧ v = .ref b ∧ a = .int i ∧ c = .int j ∧ H l = some (.lst xs) ∧ H b = some (.lst ys) ∧ l ≠ b ∧ 0 ≤ i ∧ i ≤ j ∧ j ≤ xs.length ∧ xs.length + ys.length ≤ sizeLine ∧ P (upd H l (.lst (xs.take i.toNat ++ ys ++ xs.drop j.toNat))) := by
  cases wo with
  | loc l =>
    cases wa with
    | d wa =>
      cases wc with
      | d wc =>
        cases wv with
        | d wv =>
          cases ra with
          | d ra =>
            cases rc with
            | d rc =>
              cases rv with
              | d rv =>
                cases ro with
                | loc ro =>
                  cases ra with
                  | int i =>
                    cases rc with
                    | int j =>
                      cases rv with
                      | list g1 g2 g3 =>
                        cases q : S[l]? with
                        | none => simp only [gSetSl, q] at e; cases e
                        | some so =>
                          cases so with
                          | lst xs =>
                            simp only [gSetSl, q] at e
                            split at e
                            · rename_i hc
                              cases e
                              obtain ⟨vs, k1, k2⟩ := rp.all _ _ _ ro q
                              have m := List.mem_of_getElem? ro
                              have hz : vs.length = xs.length := k2.length.symm
                              refine ⟨_, _, vs, _, i, j, rfl, rfl, rfl, rfl, k1, g1, fun e => g2 (e ▸ m), hc.1, hc.2.1, by rw [hz]; exact hc.2.2.1, lim_ok (by rw [hz, ← g3.length]; exact hc.2.2.2), ?_⟩
                              have f : ∀ o, Fu η H η (upd H _ o) := fun o => fu_write m k1 (o := o) trivial
                              exact h η _ (f _) (rp.write ro ⟨_, upd_same, RepDs.fu (f _) _ _ (((k2.take _).append g3).append (k2.drop _))⟩)
                            · cases e
                          | dK _ => simp only [gSetSl, q] at e; cases e
                          | dT _ => simp only [gSetSl, q] at e; cases e
                          | ob _ _ => simp only [gSetSl, q] at e; cases e
                          | lw _ => simp only [gSetSl, q] at e; cases e
                      | _ => cases e
                    | _ => cases e
                  | _ => cases e
        | _ => unfold gSetSl at e; split at e <;> first | cases e | simp_all
      | _ => unfold gSetSl at e; split at e <;> first | cases e | simp_all
    | _ => unfold gSetSl at e; split at e <;> first | cases e | simp_all
  | _ => unfold gSetSl at e; split at e <;> first | cases e | simp_all
theorem s_storeSl {o lo hi e : Expr} {pos p2 pos' : Pos} {fo fl fh fe : FE} (he : PE X e (tF (gx X ct) E fe)) (ho : PE X o (tF (gx X ct) E fo)) (hl : PE X lo (tF (gx X ct) E fl)) (hh : PE X hi (tF (gx X ct) E fh))
    (ha : ∀ v, assign (.Subscript o (.Slice (some lo) (some hi) none p2) pos') X.env v = (do
      let ov ← holding [v] (eval o X.env)
      let iv ← holding [v, ov] (eval (.Slice (some lo) (some hi) none p2) X.env)
      standAt pos'
      holding [v, ov, iv] (setItem ov iv v)
      release [iv, v, ov] []) := by intro _; rfl) (hs : swapsWithSole [.Subscript o (.Slice (some lo) (some hi) none p2) pos'] e pos.line X.env = pure false := by rfl) (hw : swappedStores [.Subscript o (.Slice (some lo) (some hi) none p2) pos'] e X.env = pure none := by rfl)
    (h1 : (assignEach [.Subscript o (.Slice (some lo) (some hi) none p2) pos'] X.env).map (·.2) = [assign (.Subscript o (.Slice (some lo) (some hi) none p2) pos') X.env] := by rfl) :
    PS X (.Assign [.Subscript o (.Slice (some lo) (some hi) none p2) pos'] e pos) (tS (gx X ct) E (fStoreSl fe fo fl fh)) := PSw (ps_asg he (pg_slice ho hl hh ha) hs hw h1) fun D σ H ⟨η, ρ, S, rp, er, h⟩ =>
  ⟨η, ρ, S, rp, er, FinR.mono (FinS.bind er h) fun v H1 ⟨η1, w, S1, f1, rp1, r1, h1⟩ =>
    ⟨η1, ρ, S1, rp1, er.fu f1, FinR.mono (FinS.bind (er.fu f1) h1) fun x H2 ⟨η2, wo, S2, f2, rp2, r2, h2⟩ =>
      ⟨η2, ρ, S2, rp2, (er.fu f1).fu f2, FinR.mono (FinS.bind ((er.fu f1).fu f2) h2) fun y H3 ⟨η3, wa, S3, f3, rp3, r3, h3⟩ =>
        ⟨η3, ρ, S3, rp3, ((er.fu f1).fu f2).fu f3, FinR.mono (FinS.bind (((er.fu f1).fu f2).fu f3) h3) fun z H4 ⟨η4, wc, S4, f4, rp4, r4, h4⟩ => by
          have er4 := (((er.fu f1).fu f2).fu f3).fu f4
          have rv := RepW.fu f4 _ _ (RepW.fu f3 _ _ (RepW.fu f2 _ _ r1))
          have ro := RepW.fu f4 _ _ (RepW.fu f3 _ _ r2)
          have ra := RepW.fu f4 _ _ r3
          cases q : gSetSl wo wa wc w S4 with
          | none => simp only [q] at h4; exact h4.elim
          | some S5 =>
            simp only [q] at h4
            obtain ⟨l, b, xs, ys, i, j, a1, a2, a3, a4, a5, a6, a7, a8, a9, a10, a11, a12⟩ := setSl_key (P := fun H' => D.nx σ H') q rp4 ro ra r4 rv fun η' H' f rp' => h4 η' H' σ f rp' (er4.fu f)
            exact ⟨l, b, xs, ys, i, j, a1, a2, a3, a4, a5, a6, a7, a8, a9, a10, a11, a12⟩⟩⟩⟩⟩
end
/-! tuple * int, any int -/
theorem tuple_mul0 (l : Addr) (items : Array Value) (n : Nat) (dd : Option Addr) (sl : Array (Option Value)) (x : Int) (u : Tok) (c0 : (decide (x < -(2 ^ 63)) || decide (x ≥ 2 ^ 63)) = false) (c1 : (items.isEmpty || x == 1) = false) (c2 : (decide (x ≤ 0) || items.isEmpty) = true) :
    Meets (Builtin.«tuple.__mul__» ⟨[.ref l, .int x u], []⟩) (fun _ R s => s.heap.get? l = some { cls := .type "tuple", dict := dd, data := .seq items n, slots := sl } ∧
      R (.ok (.ret (Value.ref s.heap.objs.size))) { s with heap := s.heap.push { cls := Value.type "tuple", data := Data.seq #[] }, toks := s.toks }) :=
  .of_wp fun prog w A R s h => by
    obtain ⟨hp, g, d, tk, os⟩ := s
    obtain ⟨hl, h⟩ := h
    have f1 := AutoSeq1.idx_int
    wp_walk using wpAny_loadPart' hl
    repeat (first
      | (refine wpAny_ite_false (decide_eq_false (by rw [c0]; exact Bool.false_ne_true)) ?_; wp_walk using wpAny_loadPart' hl)
      | (refine wpAny_ite_false (decide_eq_false (by rw [c1]; exact Bool.false_ne_true)) ?_; wp_walk using wpAny_loadPart' hl)
      | (refine wpAny_ite_true (decide_eq_true (by rw [c2])) ?_; wp_walk using wpAny_loadPart' hl))
    exact ⟨_, rfl, h⟩
section
variable {X : Cx} {ct : Nat → Option Addr}
theorem op_repTA : OpR X (binaryOp .Mult) (fun x y H Q => ∃ l k xs, x = .ref l ∧ y = .int k ∧ SqT X.K H l xs ∧ xs ≠ [] ∧ 2 ≤ k ∧ xs.length * k.toNat ≤ 1000000 ∧ ∀ p, H p = none → Q (.ref p) (upd H p (.tup (List.replicate k.toNat xs).flatten))) := by
  intro pins s σ H x y v u Q I rx ry h
  obtain ⟨l, k, xs, rfl, rfl, hT, hne, h1, hz, q⟩ := h
  cases rx
  obtain ⟨t, rfl⟩ := ry
  obtain ⟨its, r, ⟨⟨cls, dd, data, sl⟩, ho, hc, n, hd⟩, hs⟩ := I.tuple hT
  simp only at hc hd
  subst hc hd
  have hle : its.length = xs.length := r.length.symm
  have hpos : 0 < xs.length := List.length_pos_iff.mpr hne
  have hn : its ≠ [] := fun e => hne (by
    rw [e] at hle
    exact List.eq_nil_of_length_eq_zero hle.symm)
  have hi : its.toArray.isEmpty = false := by
    cases its with
    | nil => exact absurd rfl hn
    | cons a b => rfl
  have hsz0 : its.toArray.size = xs.length := by rw [List.size_toArray, hle]
  have hk : k.toNat ≤ 1000000 := Nat.le_trans (Nat.le_mul_of_pos_left _ hpos) hz
  have hm : ((its.toArray.size : Nat) : Int) * k ≤ 1000000 := by
    rw [hsz0]
    have a1 : ((xs.length : Nat) : Int) * k = ((xs.length * k.toNat : Nat) : Int) := by
      rw [Int.natCast_mul, Int.toNat_of_nonneg (by omega)]
    rw [a1]
    omega
  have flen : (List.replicate k.toNat its).flatten.length ≤ sizeLine := by
    rw [PyProof.Rows.lm_len_rep_flat, hle, sizeLine_eq, Nat.mul_comm]
    omega
  have c0 : (decide (k < -(2 ^ 63)) || decide (k ≥ 2 ^ 63)) = false := by
    rw [decide_eq_false (by omega), decide_eq_false (by omega)] <;> rfl
  have c1 : (its.toArray.isEmpty || k == 1) = false := by
    rw [hi, Bool.false_or]
    exact beq_eq_false_iff_ne.mpr (by omega)
  have c2 : (decide (k ≤ 0) || its.toArray.isEmpty) = false := by
    rw [hi, Bool.or_false]
    exact decide_eq_false (by omega)
  have c4 : Builtin.Tuple.tupleTooMany (((its.toArray.size : Nat) : Int) * k) = false := by
    unfold Builtin.Tuple.tupleTooMany
    rw [sizeLine_eq]
    exact decide_eq_false (by omega)
  refine wpAny_binaryOp_repeat_ref (T := "tuple") (U := "int") (by decide) ⟨_, ho, rfl⟩ (fun s' => typeIs_int s' k t) noFill_tuple_mul F.fills_int_mul F.slot_int_rmul repeat_tuple F.slot_int_index.lookup
    (call_meets F.slot_int_rmul (typeIs_int s k t) F.entry_int_rmul (F.args_int_rmul_2 _ _) (int_rmul_tuple k t l its.toArray n dd sl)
      ⟨ho, rfl, ⟨_, ho, rfl⟩, call_meets F.slot_tuple_mul ⟨_, ho, rfl⟩ F.entry_tuple_mul (F.args_tuple_mul_2 _ _) (tuple_mulW l its.toArray n dd sl k t c0 c1 c2 (by omega) c4 (by rw [size_rep, List.size_toArray]; exact flen)) ⟨ho, ?_⟩⟩)
  rw [size_rep]
  refine ⟨.ref s.heap.objs.size, _, I.laid (t' := s.toks) (o := .tup (List.replicate k.toNat xs).flatten) (fun b ob q => Heap.get?_push_of_some _ q) (Nat.le_refl _) ?_, rfl, q _ (I.hok.fresh (Nat.le_refl _))⟩
  exact ⟨by rw [PyProof.Rows.lm_len_rep_flat, sizeLine_eq, Nat.mul_comm]; omega, _, r.rep k.toNat, IsTup.new _ _⟩
theorem op_repT0 : OpR X (binaryOp .Mult) (fun x y H Q => ∃ l k xs, x = .ref l ∧ y = .int k ∧ SqT X.K H l xs ∧ xs ≠ [] ∧ k ≤ 0 ∧ -(2 ^ 63) ≤ k ∧ ∀ p, H p = none → Q (.ref p) (upd H p (.tup []))) := by
  intro pins s σ H x y v u Q I rx ry h
  obtain ⟨l, k, xs, rfl, rfl, hT, hne, h1, h2, q⟩ := h
  cases rx
  obtain ⟨t, rfl⟩ := ry
  obtain ⟨its, r, ⟨⟨cls, dd, data, sl⟩, ho, hc, n, hd⟩, hs⟩ := I.tuple hT
  simp only at hc hd
  subst hc hd
  have hle : its.length = xs.length := r.length.symm
  have hn : its ≠ [] := fun e => hne (by
    rw [e] at hle
    exact List.eq_nil_of_length_eq_zero hle.symm)
  have hi : its.toArray.isEmpty = false := by
    cases its with
    | nil => exact absurd rfl hn
    | cons a b => rfl
  have c0 : (decide (k < -(2 ^ 63)) || decide (k ≥ 2 ^ 63)) = false := by
    rw [decide_eq_false (by omega), decide_eq_false (by omega)] <;> rfl
  have c1 : (its.toArray.isEmpty || k == 1) = false := by
    rw [hi, Bool.false_or]
    exact beq_eq_false_iff_ne.mpr (by omega)
  have c2 : (decide (k ≤ 0) || its.toArray.isEmpty) = true := by
    rw [decide_eq_true h1]
    rfl
  refine wpAny_binaryOp_repeat_ref (T := "tuple") (U := "int") (by decide) ⟨_, ho, rfl⟩ (fun s' => typeIs_int s' k t) noFill_tuple_mul F.fills_int_mul F.slot_int_rmul repeat_tuple F.slot_int_index.lookup
    (call_meets F.slot_int_rmul (typeIs_int s k t) F.entry_int_rmul (F.args_int_rmul_2 _ _) (int_rmul_tuple k t l its.toArray n dd sl)
      ⟨ho, rfl, ⟨_, ho, rfl⟩, call_meets F.slot_tuple_mul ⟨_, ho, rfl⟩ F.entry_tuple_mul (F.args_tuple_mul_2 _ _) (tuple_mul0 l its.toArray n dd sl k t c0 c1 c2) ⟨ho, ?_⟩⟩)
  refine ⟨.ref s.heap.objs.size, _, I.laid (t' := s.toks) (o := .tup []) (fun b ob q => Heap.get?_push_of_some _ q) (Nat.le_refl _) ?_, rfl, q _ (I.hok.fresh (Nat.le_refl _))⟩
  exact ⟨Nat.zero_le _, [], .nil, IsTup.new _ _⟩
def gRepTA (a b : W) (S : Store) : O := match a, b with
  | .d (.tuple xs), .d (.int k) => if xs ≠ [] ∧ 2 ≤ k ∧ xs.length * k.toNat ≤ 1000000 then some (.d (.tuple (List.replicate k.toNat xs).flatten), S) else none
  | _, _ => none
def gRepT0 (a b : W) (S : Store) : O := match a, b with
  | .d (.tuple xs), .d (.int k) => if xs ≠ [] ∧ k ≤ 0 ∧ -(2 ^ 63) ≤ k then some (.d (.tuple []), S) else none
  | _, _ => none
theorem sim_repTA : OpR X (binaryOp .Mult) (Sim2 X ct gRepTA) := OpR.fit op_repTA fun x y H Q ⟨η, S, wx, wy, rp, rx, ry, h⟩ => by
  unfold gRepTA at h
  split at h
  · split at h
    · rename_i hk
      cases rx with
      | d rx =>
        cases ry with
        | d ry =>
          cases ry
          cases rx with
          | tuple h1 h2 =>
            have hl := h2.length
            refine ⟨_, _, _, rfl, rfl, h1, fun e => hk.1 ?_, hk.2.1, by rw [← hl]; exact hk.2.2, new_tup rp (rep_rep h2 _) h⟩
            rw [e] at hl
            exact List.eq_nil_of_length_eq_zero hl
    · exact h.elim
  · exact h.elim
theorem sim_repT0 : OpR X (binaryOp .Mult) (Sim2 X ct gRepT0) := OpR.fit op_repT0 fun x y H Q ⟨η, S, wx, wy, rp, rx, ry, h⟩ => by
  unfold gRepT0 at h
  split at h
  · split at h
    · rename_i hk
      cases rx with
      | d rx =>
        cases ry with
        | d ry =>
          cases ry
          cases rx with
          | tuple h1 h2 =>
            have hl := h2.length
            refine ⟨_, _, _, rfl, rfl, h1, fun e => hk.1 ?_, hk.2.1, hk.2.2, new_tup rp .nil h⟩
            rw [e] at hl
            exact List.eq_nil_of_length_eq_zero hl
    · exact h.elim
  · exact h.elim
/-- a list so many times: anew, or to be changed later -/
def gRepL (a b : W) (S : Store) : O := match asL a S, b with
  | some xs, .d (.int k) => if -(2 ^ 63) ≤ k ∧ k < 2 ^ 63 ∧ xs.length * k.toNat ≤ lim then some (.d (.list (List.replicate k.toNat xs).flatten), S) else none
  | _, _ => none
def gRepLL (a b : W) (S : Store) : O := match asL a S, b with
  | some xs, .d (.int k) => if -(2 ^ 63) ≤ k ∧ k < 2 ^ 63 ∧ xs.length * k.toNat ≤ lim then some (.loc S.length, S ++ [.lst (List.replicate k.toNat xs).flatten]) else none
  | _, _ => none
theorem sim_repL : OpR X (binaryOp .Mult) (Sim2 X ct gRepL) := OpR.fit op_rep fun x y H Q ⟨η, S, wx, wy, rp, rx, ry, h⟩ => by
  unfold gRepL at h
  split at h
  · rename_i xs k e1
    obtain ⟨a, vs, rfl, h1, h2⟩ := asL_ok e1 rp rx
    split at h
    · rename_i hk
      cases ry with
      | d ry =>
        cases ry
        exact ⟨a, _, vs, rfl, rfl, h1, hk.1, hk.2.1, lim_ok (by rw [← h2.length]; exact hk.2.2), new_list rp (rep_rep h2 _) h⟩
    · exact h.elim
  · exact h.elim
theorem sim_repLL : OpR X (binaryOp .Mult) (Sim2 X ct gRepLL) := OpR.fit op_rep fun x y H Q ⟨η, S, wx, wy, rp, rx, ry, h⟩ => by
  unfold gRepLL at h
  split at h
  · rename_i xs k e1
    obtain ⟨a, vs, rfl, h1, h2⟩ := asL_ok e1 rp rx
    split at h
    · rename_i hk
      cases ry with
      | d ry =>
        cases ry
        exact ⟨a, _, vs, rfl, rfl, h1, hk.1, hk.2.1, lim_ok (by rw [← h2.length]; exact hk.2.2), new_live rp (rep_rep h2 _) h⟩
    · exact h.elim
  · exact h.elim
/-- a product of any sort -/
def gMulC (a b : W) (S : Store) : O := match gRep1 a b S with
  | some o => some o
  | none => match gRepTA a b S with
    | some o => some o
    | none => match gRepT0 a b S with
      | some o => some o
      | none => match gRepL a b S with
        | some o => some o
        | none => gMulA a b S
theorem sim_mulC : OpR X (binaryOp .Mult) (Sim2 X ct gMulC) := OpR.orElse sim_rep1 (OpR.orElse sim_repTA (OpR.orElse sim_repT0 (OpR.orElse sim_repL sim_mulA)))
def gMulL (a b : W) (S : Store) : O := match gRepLL a b S with
  | some o => some o
  | none => gMulC a b S
theorem sim_mulL : OpR X (binaryOp .Mult) (Sim2 X ct gMulL) := OpR.orElse sim_repLL sim_mulC
end
end VI
set_option Elab.async false
set_option linter.all false
set_option maxRecDepth 100000
namespace VI
open PySem PySem.Spec PyProof.Rows L2

/-! sorted(d): keys that are ints, any number of them; keys that are texts, below 64 -/
section
variable {X : Cx} {ct : Nat → Option Addr} {E : EX}
theorem call_sortedDA (hcalm : X.calm = true) : CallR X (.builtin "sorted") (fun xs H Q => ∃ (a : Addr) (kvs : List (Key × V)) (ks : List Int), xs = [.ref a] ∧ H a = some (.dK kvs) ∧ kvs.map (·.1) = ks.map Sum.inl ∧
    ∀ (ys : List Int) (p : Addr), ys.Perm ks → ys.Pairwise (· ≤ ·) → H p = none → Q (.ref p) (upd H p (.lst (ys.map V.int)))) := by
  intro pins s σ H xs us Q I r q
  obtain ⟨a, kvs, ks, ex, hd, hks, q⟩ := q
  subst ex
  obtain ⟨u, eu, rx⟩ := vals1 r
  subst eu
  cases rx
  obtain ⟨z, lo, vs, rel, dd⟩ := dk_of I.hok hd
  obtain ⟨ep, hat⟩ := dd.dictAt
  have hkeys : vs.map (·.1) = ks.map Sum.inl := rel.keys.symm.trans hks
  have hl : vs.length = ks.length := by
    have e := congrArg List.length hkeys
    rw [List.length_map, List.length_map] at e
    exact e
  have h16 : vs.length ≤ sizeLine := by rw [← rel.length]; exact z
  refine Calls.call_function_entry PyProof.Rows.kind_sorted PyProof.Rows.plain_sorted PyProof.Rows.entry_sorted (PyProof.Rows.args_sorted1 _) ?_
  unfold Builtin.«sorted»
  refine wpAny_bind (m := checkCount "sorted" 1 1 _) (wpAny_pure ?_)
  refine wpAny_bind (PySem.W.kdu_collect (A := X.A.in1) (PySem.W.kdl_dict (knd := mixKind X.prog X.w) (kvs := vs) (ep := ep) lo) (I.ok.hd hcalm) hat h16 fun h' tk acc hk hacc => ?_)
  have hal : acc.toList.length = ks.length := by rw [Array.length_toList, hacc.1, hl]
  have hS : IntsAre acc.toList ks := ints_each hal fun j v e => by
    obtain ⟨k, x, e1, e2⟩ := hacc.2 j v (by rw [← Array.getElem?_toList]; exact e)
    have e3 : (vs.map (·.1))[j]? = some k := by rw [List.getElem?_map, e1]; rfl
    rw [hkeys, List.getElem?_map] at e3
    cases e4 : ks[j]? with
    | none => rw [e4] at e3; cases e3
    | some y =>
      rw [e4] at e3
      have e5 : Sum.inl y = k := Option.some.inj e3
      subst e5
      rcases keyIs_shape (show keyIs (Sum.inl y) v = true from e2) with ⟨i, t, ek, ev⟩ | ⟨z, t, ek, ev⟩
      · cases ek
        exact ⟨y, t, rfl, ev⟩
      · cases ek
  have I1 : Inv X pins σ H { s with heap := h', toks := tk } := I.kept hk
  have hz : acc.toList.length ≤ sizeLine := by rw [hal, ← hl]; exact h16
  refine wpAny_bind (wpAny_newList ?_ hz)
  have hoL : (h'.push (seqObj "list" acc.toList.toArray 0)).get? h'.objs.size = some (seqObj "list" acc.toList.toArray 0) := Heap.get?_push_size _ rfl
  show wpAny _ _ _ _ _ { s with heap := h'.push (seqObj "list" acc.toList.toArray 0), toks := tk }
  refine wpAny_bind (wpAny_holding (wpAny_call_entry PyProof.Rows.slot_list_sort ⟨_, hoL, rfl⟩ PyProof.Rows.entry_list_sort
    (SrtO.list_sort_ord (s := { s with heap := h'.push (seqObj "list" acc.toList.toArray 0), toks := tk }) SrtO.swo_int hoL hz (fun h2 => SrtO.ints_sortable hS h2) fun out h1 h2 => ⟨_, rfl, ?_⟩) (PyProof.Rows.args_list_sort _)))
  obtain ⟨k1, k2, k3⟩ := SrtO.ints_out hS h1 h2
  obtain ⟨e', he'⟩ := PyProof.Rows.sortedHeap_at (vs := acc.toList) (out := out.toArray) hoL
  have hlen : ((out.map SrtO.iv).map V.int).length ≤ sizeLine := by
    rw [List.length_map, k2.length_eq, ← hl]
    exact h16
  refine wpAny_pure ⟨_, rfl, .ref h'.objs.size, upd H h'.objs.size (.lst ((out.map SrtO.iv).map V.int)), I1.laid (t' := tk) (fun b u e => ?_) (Nat.le_refl _)
    (show ObjOk X.prog X.w _ _ _ (.lst ((out.map SrtO.iv).map V.int)) from ⟨hlen, out, e', vals_of_ints k1, he'⟩), rfl, q _ _ k2 k3 (I1.hok.fresh (Nat.le_refl _))⟩
  have hb : b < h'.objs.size := Heap.lt_size e
  rw [PyProof.Rows.sortedHeap_old (Nat.ne_of_lt hb) (by rw [size_push']; exact Nat.lt_succ_of_lt hb)]
  exact Heap.get?_push_of_some _ e
def intKeys : List (Key × PyData) → Option (List Int)
  | [] => some []
  | (.inl i, _) :: r => (intKeys r).map (i :: ·)
  | _ :: _ => none
theorem intKeys_ok : ∀ {kvs : List (Key × PyData)} {is : List Int}, intKeys kvs = some is → kvs.map (·.1) = is.map Sum.inl
  | [], is, e => by cases e; rfl
  | (.inl i, v) :: r, is, e => by
    rw [intKeys] at e
    cases q : intKeys r with
    | none => rw [q] at e; cases e
    | some js => rw [q] at e; cases e; rw [List.map_cons, intKeys_ok q]; rfl
  | (.inr _, _) :: _, is, e => by cases e
def txtKeys : List (Key × PyData) → Option (List Str)
  | [] => some []
  | (.inr x, _) :: r => (txtKeys r).map (x :: ·)
  | _ :: _ => none
theorem txtKeys_ok : ∀ {kvs : List (Key × PyData)} {is : List Str}, txtKeys kvs = some is → kvs.map (·.1) = is.map Sum.inr
  | [], is, e => by cases e; rfl
  | (.inr i, v) :: r, is, e => by
    rw [txtKeys] at e
    cases q : txtKeys r with
    | none => rw [q] at e; cases e
    | some js => rw [q] at e; cases e; rw [List.map_cons, txtKeys_ok q]; rfl
  | (.inl _, _) :: _, is, e => by cases e
end
def srtI (zs : List Int) : List Int := zs.mergeSort fun a b => decide (a ≤ b)
theorem srtI_eq {ys zs : List Int} (hp : ys.Perm zs) (hs : ys.Pairwise (· ≤ ·)) : ys = srtI zs := by
  have h2 : (srtI zs).Pairwise (· ≤ ·) := by
    have := List.pairwise_mergeSort (le := fun a b : Int => decide (a ≤ b)) (fun a b c h1 h2 => by rw [decide_eq_true_eq] at *; omega) (fun a b => by rw [Bool.or_eq_true, decide_eq_true_eq, decide_eq_true_eq]; omega) zs
    exact this.imp fun h => of_decide_eq_true h
  exact List.Perm.eq_of_pairwise (fun a b _ _ h1 h2 => Int.le_antisymm h1 h2) hs h2 (hp.trans (List.mergeSort_perm zs _).symm)
def gSortI (ws : List W) (S : Store) : O := match ws with
  | [w] => match asLst w S with
    | some xs => match intsD xs with
      | some ns => some (.d (.list ((srtI ns).map .int)), S)
      | none => none
    | none => none
  | _ => none
theorem repD_ints {K : PySem.W.Frag} {η : List Addr} {H : Hp} : ∀ ns : List Int, RepDs K η H (ns.map PyData.int) (ns.map V.int)
  | [] => .nil
  | i :: r => .cons (.int i) (repD_ints r)
theorem repD_strs {K : PySem.W.Frag} {η : List Addr} {H : Hp} : ∀ ns : List Str, RepDs K η H (ns.map PyData.str) (ns.map V.str)
  | [] => .nil
  | i :: r => .cons (.str i) (repD_strs r)
section
variable {X : Cx} {ct : Nat → Option Addr} {E : EX}
theorem c_sortI : CallR X (.builtin "sorted") (SimL X ct gSortI) := CallR.fit cr_sortedI fun xs H Q ⟨η, S, ws, rp, rr, q⟩ => by
  unfold gSortI at q
  split at q
  · obtain ⟨v, rfl, r⟩ := repWs1 rr
    split at q
    · rename_i xs e
      obtain ⟨a, vs, rfl, h1, h2⟩ := asLst_ok e rp r
      split at q
      · rename_i ns e2
        have := intsD_ok e2 h2
        subst this
        refine ⟨a, ns, rfl, h1, fun ns' p hp hs hn => ?_⟩
        rw [srtI_eq hp hs]
        exact new_list rp (repD_ints _) q p hn
      · exact q.elim
    · exact q.elim
  · exact q.elim
/-- sorted(d) -/
def gSortDk (ws : List W) (S : Store) : O := match ws with
  | [w] => match asDk w S with
    | some kvs => match intKeys kvs with
      | some is => some (.d (.list ((srtI is).map .int)), S)
      | none => match txtKeys kvs with
        | some xs => if xs.length < 64 then some (.d (.list ((srtS xs).map .str)), S) else none
        | none => none
    | none => none
  | _ => none
theorem c_sortDk (hc : X.calm = true) : CallR X (.builtin "sorted") (SimL X ct gSortDk) := CallR.fit (CallR.or (call_sortedDA hc) (call_sortedD hc)) fun xs H Q ⟨η, S, ws, rp, rr, q⟩ => by
  unfold gSortDk at q
  split at q
  · obtain ⟨v, rfl, r⟩ := repWs1 rr
    split at q
    · rename_i kvs e
      obtain ⟨a, vs, rfl, h1, h2, h3⟩ := asDk_ok e rp r
      split at q
      · rename_i is e2
        refine .inl ⟨a, vs, is, rfl, h1, by rw [← h2]; exact intKeys_ok e2, fun ys p hp hs hn => ?_⟩
        rw [srtI_eq hp hs]
        exact new_list rp (repD_ints _) q p hn
      · split at q
        · rename_i ks e2
          split at q
          · rename_i hz
            refine .inr ⟨a, vs, ks, rfl, .inl h1, by rw [← h2]; exact txtKeys_ok e2, hz, fun ys p hp hs hn => ?_⟩
            rw [srtS_eq hp hs]
            exact new_list rp (repD_strs _) q p hn
          · exact q.elim
        · exact q.elim
    · exact q.elim
  · exact q.elim
/-- sorted(..), of any sort -/
def gSortX (ws : List W) (S : Store) : O := orO (gSortA ws S) (orO (gSortI ws S) (gSortDk ws S))
theorem c_sortX (hc : X.calm = true) (hr : X.A.units + 64 < cLine) : CallR X (.builtin "sorted") (SimL X ct gSortX) := CallR.orO (c_sortedA hr) (CallR.orO c_sortI (c_sortDk hc))
end
/-! tuple(range(a, b, c)) -/
def gTupRng (ws : List W) (S : Store) : O := match ws with
  | [.d (.int i), .d (.int j), .d (.int c)] => if c ≠ 0 ∧ c.natAbs < 1073741824 ∧ Builtin.Range.small i j c = true ∧ Builtin.Range.rangeSize i j c = ((Builtin.Range.rangeSize i j c).toNat : Int) ∧ (Builtin.Range.rangeSize i j c).toNat ≤ 16777216 then
      some (.d (.tuple ((List.range (Builtin.Range.rangeSize i j c).toNat).map fun k => .int (i + (k : Nat) * c))), S) else none
  | _ => none
theorem rng_rep {K : PySem.W.Frag} {η : List Addr} {H : Hp} (i c : Int) : ∀ l : List Nat, RepDs K η H (l.map fun k => .int (i + (k : Nat) * c)) (l.map fun k => V.int (i + (k : Nat) * c))
  | [] => .nil
  | k :: r => .cons (.int _) (rng_rep i c r)
section
variable {X : Cx} {ct : Nat → Option Addr} {E : EX}
theorem i_tupRng {a b c : Expr} {fa : FA} {p p2 pos pos2 : Pos} (hc : X.calm = true) (hg : Gl X "tuple") (hm : X.mg "tuple" = none) (hg2 : Gl X "range") (hm2 : X.mg "range" = none) (ha : PA X [a, b, c] (tA (gx X ct) E fa))
    (hs : starEach [a, b, c] X.env = (false, eval a X.env) :: starEach [b, c] X.env := by rfl) (hpl : (backTo pos2 (starEach [b, c] X.env)).any (·.1) = false := by rfl)
    (na : starEach [.Call (.Name "range" p2) [a, b, c] [] pos2] X.env = (false, eval (.Call (.Name "range" p2) [a, b, c] [] pos2) X.env) :: starEach [] X.env := by rfl) :
    PE X (.Call (.Name "tuple" p) [.Call (.Name "range" p2) [a, b, c] [] pos2] [] pos) (tF (gx X ct) E (fL gTupRng fa)) := by
  refine ⟨fun pins s σ H Q I h => ?_⟩
  obtain ⟨η, ρ, S, rp, er, h⟩ := h
  refine Call_ (ld_blt I hg hm boot_tuple (PyProof.Rows.callWith_type1 (args_cons ?_ na) na))
  refine Call_ (ld_blt I hg2 hm2 boot_range (PyProof.Rows.callWith_type1 (thn (ha.run pos2 pins s σ H _ I ⟨η, ρ, S, rp, er, FinR.bind (rel := relL (gx X ct)) h⟩) fun us s1 ⟨vs, H1, I1, r1, η1, ws, S1, f1, rp1, rr, q⟩ => ?_) hs hpl))
  have q' : FinO (gx X ct) η1 H1 (gTupRng ws S1) Q := lift_ok q
  unfold gTupRng at q'
  split at q'
  · rename_i i j c
    split at q'
    · rename_i hcd
      obtain ⟨c0, c1, c2, c3, c4⟩ := hcd
      obtain ⟨v1, v2, v3, rfl, r2, r3, r4⟩ := repWs3 rr
      obtain rfl := intW r2
      obtain rfl := intW r3
      obtain rfl := intW r4
      cases r1 with
      | cons r rr =>
        cases rr with
        | cons r' rr =>
          cases rr with
          | cons r'' rr =>
            cases rr
            obtain ⟨t, rfl⟩ := r
            obtain ⟨t', rfl⟩ := r'
            obtain ⟨t'', rfl⟩ := r''
            refine call_range_3 c0 ?_ (.inl (PyProof.noPylong_small c1))
            have I2 : Inv X pins σ H1 { s1 with heap := s1.heap.push { cls := .type "range", data := .fields #[.int i t, .int j t', .int c t''] } } := I1.kept (t' := s1.toks) fun b o e => Heap.get?_push_of_some _ e
            refine args_nil ?_
            refine call_tuple_range (n := (Builtin.Range.rangeSize i j c).toNat) (I2.ok.hd hc) (IsRange.new ..) c2 c3 (by omega) fun h' tk acc hk hi => ?_
            have I3 : Inv X pins σ H1 { s1 with heap := h', toks := tk } := I2.kept hk
            have vals : Vals ((List.range (Builtin.Range.rangeSize i j c).toNat).map fun k => V.int (i + (k : Nat) * c)) acc.toList := by
              have e : acc.toList.length = (Builtin.Range.rangeSize i j c).toNat := by rw [Array.length_toList]; exact hi.1
              rw [← e]
              refine vals_of_get acc.toList _ fun j u hj => ?_
              obtain ⟨t, rfl⟩ := hi.2 j u (by rw [← hj, Array.getElem?_toList])
              exact ⟨t, rfl⟩
            refine ⟨.ref h'.objs.size, _, I3.laid (t' := tk) (fun c o e => Heap.get?_push_of_some _ e) (Nat.le_refl _) (show ObjOk X.prog X.w _ _ _ (.tup _) from ⟨?_, acc.toList, vals, ?_⟩), rfl, new_tup rp1 (rng_rep i c _) q' _ (I3.hok.fresh (Nat.le_refl _))⟩
            · rw [List.length_map, List.length_range, sizeLine_eq]; omega
            · rw [Array.toArray_toList]; exact IsTup.new _ _
    · exact q'.elim
  · exact q'.elim
end
end VI
set_option Elab.async false
set_option linter.all false
set_option maxRecDepth 100000
namespace VI
open PySem PySem.Spec PyProof.Rows L2

/-! a class as it is called -/
theorem hu1 {k : Nat} {A : Around} (r : Room k A) : A.units + 1 < cLine := by have := r.un; omega
theorem room_pred {n : Nat} {A : Around} (h : 2 ≤ n) (r : Room n A) : Room (n - 1 + 1) A := by
  rw [Nat.sub_add_cancel (by omega)]
  exact r
def CalleeK (P : Program) (w : World) (K : PySem.W.Frag) (mg : Str → Option Value) (base : Heap) (ct : Nat → Option Addr) (k : Nat) (nm : Str) (n : Nat) (g : List W → Store → R W) : Prop :=
  ∃ gi : List W → Store → R (List (Str × W)), (∀ ws S, g ws S = mkOb nm n gi ws S) ∧ (∀ ws S c fs S', gi ws S ≠ .exc c fs S') ∧ CalleeI P w K mg base ct k nm n gi
section
variable {X : Cx} {ct : Nat → Option Addr} {E : EX} {k n m : Nat} {nm : Str} {g : List W → Store → R W} {e : Expr} {es : List Expr} {p pos : Pos} {fa : FA}
theorem new_eq {gi : List W → Store → R (List (Str × W))} (h : ∀ ws S, g ws S = mkOb nm n gi ws S) (hn : m + 1 = n) : fCallL m g fa = fMk nm n gi fa := by
  funext ρ S
  unfold fCallL fMk
  congr 1
  funext ws S1
  by_cases e : ws.length = m
  · rw [if_pos e, h]
  · rw [if_neg e]
    unfold mkOb
    rw [if_neg (by omega)]
theorem cNew (C : CalleeK X.prog X.w X.K X.mg X.base ct k nm n g) (hr : Room (k + 1) X.A) (gd : X.A.guards = some []) (ha : PA X (e :: es) (tA (gx X ct) E fa)) (hn : m + 1 = n := by rfl) (hg : Gl X nm := by rfl) (hdb : (nm == ("__debug__" : Str)) = false := by decide)
    (he : starEach (e :: es) X.env = (false, eval e X.env) :: starEach es X.env := by rfl) (hpl : (backTo pos (starEach es X.env)).any (·.1) = false := by rfl) :
    PE X (.Call (.Name nm p) (e :: es) [] pos) (tF (gx X ct) E (fCallL m g fa)) := by
  obtain ⟨gi, h1, h2, C⟩ := C
  rw [new_eq h1 hn]
  exact cMk C hr gd h2 ha hg hdb he hpl
theorem cNew0 (C : CalleeK X.prog X.w X.K X.mg X.base ct k nm 1 g) (hr : Room (k + 1) X.A) (gd : X.A.guards = some []) (hg : Gl X nm := by rfl) (hdb : (nm == ("__debug__" : Str)) = false := by decide) :
    PE X (.Call (.Name nm p) [] [] pos) (tF (gx X ct) E (fCallL 0 g fA0)) := by
  obtain ⟨gi, h1, h2, C⟩ := C
  rw [new_eq h1 rfl]
  exact cMk0 C hr gd h2 hg hdb
end
section
variable {P : Program} {w : World} {K : PySem.W.Frag} {mg : Str → Option Value} {base : Heap} {ct : Nat → Option Addr} {k n : Nat} {nm qual : Str} {st : Stmt} {N ps : List Str} {L : List (Str × FE)} {g : List W → Store → R W}
theorem mkOb_bad (ws : List W) (S : Store) : mkOb nm n (fun _ _ => R.bad) ws S = .bad := by
  unfold mkOb
  split <;> rfl
theorem calleeK_zero (D : InitAt K mg nm qual st) (hB : BndM "__init__" qual st ps) (h : ∀ ws S, g ws S = .bad) : CalleeK P w K mg base ct k nm n g :=
  ⟨fun _ _ => .bad, fun ws S => by rw [h, mkOb_bad], (fun _ _ _ _ _ e => by cases e), calleeI_zero D hB⟩
theorem calleeK_succ (D : InitAt K mg nm qual st) (hB : BndM "__init__" qual st ps) (hS : FnScope N ps (defScope st)) (hps : ps.length ≤ N.length) (hL : L.length < 900) (hn : ps.length = n)
    (h0 : ∀ ws S, g ws S = mkOb nm n (fun ws S => noX (goI (startI N.length ws) L [] S)) ws S)
    (h : ∀ (f : Addr) (cdv : Value) (A : Around) (outer : List Env) (s : Shared) (H : Hp) (E : XK), Room k (A.deeper (envOfC qual (defScope st) s.heap.objs.size f cdv)) → A.guards = some [] → PSs (bodyX P w K mg base N qual (defScope st) f cdv A outer s H E) (defBody st) (tInit ⟨K, ct⟩ nm E0 L)) :
    CalleeK P w K mg base ct (k + 1) nm n g := ⟨_, h0, fun _ _ _ _ _ => noX_ne, calleeI_succ D hB hS hps hL hn h⟩
end
theorem methAt_of {K : PySem.W.Frag} {nm m qual : Str} {st : Stmt} (c : (He.Fa.meth nm m).ok K = true) (F : ∃ fd, FunD K m qual (defArgs st) (defBody st) (defScope st) [] [] (He.ma K (He.ga K nm) m) fd) : MethAt K nm m qual st := by
  obtain ⟨fd, F⟩ := F
  exact ⟨_, fd, F, He.meth_ok c⟩
theorem initAt_of {K : PySem.W.Frag} {h : Heap} {mg : Str → Option Value} {nm qual : Str} {st : Stmt} (X : K.In h) (G : h.Ns mainGlobals mg) (c : (He.Fa.glo nm).ok K = true) (m : (He.Fa.mkr nm).ok K = true) (F : ∃ fd, FunD K "__init__" qual (defArgs st) (defBody st) (defScope st) [] [] (He.ma K (He.ga K nm) "__init__") fd) : InitAt K mg nm qual st := by
  obtain ⟨fd, F⟩ := F
  exact ⟨_, fd, F, He.mkr_ok m, He.glo_ok X G c⟩
end VI
set_option Elab.async false
set_option linter.all false
set_option maxRecDepth 100000
set_option maxHeartbeats 4000000
namespace VI
open PySem PySem.Spec PyProof.Rows L2

/-! xs.extend(t), t a tuple -/
theorem list_extend_tup (l : Addr) (items : Array Value) (n : Nat) (b : Addr) (items2 : Array Value) (n2 : Nat) (dd : Option Addr) (sl : Array (Option Value)) (hs0 : ¬(!items.isEmpty && Builtin.List.listTooLong (items.size + items2.size)) = true) (hs1 : items.size ≤ sizeLine) (hs2 : items.size + items2.size ≤ sizeLine + 1) :
    Meets (Builtin.«list.extend» ⟨[.ref l, .ref b], []⟩) (fun _ R s => s.heap.get? l = some { cls := .type "list", dict := none, data := .seq items n, slots := #[] } ∧ s.heap.get? b = some { cls := .type "tuple", dict := dd, data := .seq items2 n2, slots := sl } ∧ R (.ok (.ret Value.none)) { s with heap := s.heap.update l (Obj.mapSeq fun x => x ++ items2), toks := s.toks }) :=
  .of_wp fun prog w A R s h => by
    obtain ⟨hp, g, d, tk, os⟩ := s; obtain ⟨hl, hb, h⟩ := h; have f1 := AutoSeq1.idx_int; have f2 := AutoSeq1.sub_tuple_tuple; have f3 := AutoSeq1.sub_list_list; have f4 := AutoSeq1.sub_tuple_list; have f5 := AutoSeq1.sub_list_tuple;
    have hz' : (items ++ items2).size ≤ sizeLine + 1 := by rw [Array.size_append]; exact hs2
    wp_walk using (wpAny_updateSeq hl rfl (hz := hs1) (_hz' := hz')), wpAny_loadPart' hl, wpAny_loadPart' hb; exact ⟨_, rfl, h⟩
section
variable {X : Cx} {ct : Nat → Option Addr}
theorem mt_extendT : MtR X "list.extend" (fun x vs H Q => ∃ l b xs zs, x = .ref l ∧ vs = [.ref b] ∧ H l = some (.lst xs) ∧ SqT X.K H b zs ∧ xs.length + zs.length ≤ sizeLine ∧ Q .non (upd H l (.lst (xs ++ zs)))) := by
  intro pins s σ H x vs v us Q I rx rv h
  obtain ⟨l, b, xs, zs, rfl, rfl, hH, hB, hz, q⟩ := h
  cases rx
  obtain ⟨u, rfl, ru⟩ := rv.one
  cases ru
  obtain ⟨z, its, n, r, hl, e⟩ := I.lstM hH
  obtain ⟨its2, r2, ⟨⟨cls, dd, data, sl⟩, ho, hc, n2, hd⟩, hs⟩ := I.tuple hB
  simp only at hc hd
  subst hc hd
  have hl2 := r2.length
  have hsz : its.toArray.size + its2.toArray.size ≤ sizeLine := by rw [List.size_toArray, List.size_toArray]; omega
  have hlong : ¬ (!its.toArray.isEmpty && Builtin.List.listTooLong (its.toArray.size + its2.toArray.size)) = true := by
    rw [notLongL hsz, Bool.and_false]
    exact Bool.false_ne_true
  refine call_meets F.slot_list_extend ⟨_, e, rfl⟩ F.entry_list_extend (F.args_list_extend_2 _ _)
    (list_extend_tup l its.toArray n b its2.toArray n2 dd sl hlong (by rw [List.size_toArray]; omega) (by omega)) ⟨e, ho, ?_⟩
  refine ⟨.non, _, I.lset (its' := its ++ its2) hH e (by simp) (r.append r2) ?_, rfl, q⟩
  rw [List.length_append]
  omega
def mExtendT : GM := fun o ws S => match o, ws with
  | .loc l, [.d (.tuple ys)] => match S[l]? with
    | some (.lst xs) => if xs.length + ys.length ≤ lim then some (.d .none, S.set l (.lst (xs ++ ys))) else none
    | _ => none
  | _, _ => none
theorem m_extendT : MtR X "list.extend" (SimM X ct mExtendT) := MtR.fit mt_extendT fun x xs H Q ⟨η, S, wx, ws, rp, rx, rr, h⟩ => by
  unfold mExtendT at h
  split at h
  · rename_i l ys
    split at h
    · rename_i ds q
      obtain ⟨a, vs, rfl, ha, h1, h2⟩ := live_at q rp rx
      obtain ⟨y, rfl, ry⟩ := repWs1 rr
      split at h
      · rename_i hl
        cases ry with
        | d ry =>
          cases ry with
          | tuple g1 g2 => exact ⟨a, _, vs, _, rfl, rfl, h1, g1, by rw [← h2.length, ← g2.length, sizeLine_eq]; exact hl, write_list rp ha (h2.append g2) (.d .none) h⟩
      · exact h.elim
    · exact h.elim
  · exact h.elim
theorem MtR.orO {id : String} {g g' : GM} (h : MtR X id (SimM X ct g)) (h' : MtR X id (SimM X ct g')) : MtR X id (SimM X ct fun o ws S => VI.orO (g o ws S) (g' o ws S)) := by
  intro pins s σ H x xs v us Q I rx rr ⟨η, S, wx, ws, rp, r1, r2, q⟩
  cases e : g wx ws S with
  | some o => exact h pins s σ H x xs v us Q I rx rr ⟨η, S, wx, ws, rp, r1, r2, by rw [e]; simp only [e, VI.orO] at q; exact q⟩
  | none => exact h' pins s σ H x xs v us Q I rx rr ⟨η, S, wx, ws, rp, r1, r2, by simp only [e, VI.orO] at q; exact q⟩
def mExtendA : GM := fun o ws S => orO (mExtend o ws S) (mExtendT o ws S)
theorem m_extendA : MtR X "list.extend" (SimM X ct mExtendA) := MtR.orO m_extend m_extendT
end
end VI
set_option Elab.async false
set_option linter.all false
set_option maxRecDepth 100000
namespace VI
open PySem PySem.Spec PyProof.Rows L2
open Classical

/-! a dict by a comprehension -/
def dcPut (l : Nat) (y z : W) (S : Store) : Option Store := match keyW y, z, S[l]? with
  | some k, .d d, some (.dK kvs) => if kvs.length < lim then some (S.set l (.dK (putD kvs k d))) else none
  | _, _, _ => none
noncomputable def dcL (ok : Store → Prop) (g : FG) (t : FT) (ek ev : FE) (ρ : Rho) (l : Nat) : List W → Store → R W
  | [], S => if ok S then .ok (.loc l) S else .bad
  | w :: ws, S => if ok S then (match g w ρ with
    | none => .bad
    | some ρ1 => (noX (t ρ1 S)).bind fun k S1 => if k = true then (noX (frz S1.length (ek ρ1 S1))).bind fun y S2 => (noX (frz S2.length (ev ρ1 S2))).bind fun z S3 => (match dcPut l y z S3 with
        | some S4 => dcL ok g t ek ev ρ l ws S4
        | none => .bad) else dcL ok g t ek ev ρ l ws S1) else .bad
noncomputable def fDc (it : FK) (g : FG) (t : FT) (ek ev : FE) (vs : List Nat) : FE := fun ρ S => (it ρ S).bind fun x S1 => dcL x.ok g t ek ev (wipeR ρ vs) S1.length x.xs (S1 ++ [.dK []])
section
variable {X : Cx} {ct : Nat → Option Addr} {E : EX}
theorem dc_ok {ok : Store → Prop} {g : FG} {t : FT} {ek ev : FE} {ρ : Rho} {l : Nat} {ws : List W} {S : Store} {Z : XK} {η : List Addr} {H : Hp} {Q : VK} (h : FinR (gx X ct) (relW (gx X ct)) Z η H (dcL ok g t ek ev ρ l ws S) Q) : ok S := by
  by_cases q : ok S
  · exact q
  · cases ws <;> (rw [dcL, if_neg q] at h; exact h.elim)
theorem dcPut_ok {l : Nat} {y z : W} {S S' : Store} {η : List Addr} {H : Hp} {D : Addr} {vy vz : V} {P : Hp → Prop} (e : dcPut l y z S = some S') (rp : Rp X.K η H S) (hD : η[l]? = some D) (ry : RepW X.K η H y vy) (rz : RepW X.K η H z vz) (h : ∀ H', Fu η H η H' → Rp X.K η H' S' → P H') :
    ∃ kvs k, vy = kV k ∧ H D = some (.dK kvs) ∧ kvs.length < sizeLine ∧ P (upd H D (.dK (putK kvs k vz))) := by
  unfold dcPut at e
  split at e
  · rename_i k d kvs hk q
    split at e
    · rename_i hl
      cases e
      cases rz with
      | d rz =>
        obtain ⟨vs, h1, e1, e2⟩ := rp.all _ _ _ hD q
        have m : D ∈ η := List.mem_of_getElem? hD
        obtain ⟨u, hu2, mu⟩ := rp.there m
        have f : Fu η H η (upd H D (.dK (putK vs k vz))) := fu_write m hu2 mu
        obtain ⟨p1, p2⟩ := put_rep (k := k) rz e1 e2
        have hlen : vs.length < sizeLine := by
          have z : kvs.length = vs.length := by rw [← List.length_map (f := (·.1)), e1, List.length_map]
          rw [← z, sizeLine_eq]
          exact hl
        exact ⟨vs, k, keyW_ok hk ry, h1, hlen, h _ f (rp.write hD ⟨_, upd_same, p1, RepDs.fu f _ _ p2⟩)⟩
    · cases e
  · cases e
theorem dc_key {it : FK} {g : FG} {t : FT} {ek ev : FE} {vs : List Nat} : ∀ σ H Q, tF (gx X ct) E (fDc it g t ek ev vs) σ H Q → tDc (tI (gx X ct) E it) (tGb (gx X ct) vs g) (tT (gx X ct) (fun _ => E0) t) (tF (gx X ct) (fun _ => E0) ek) (tF (gx X ct) (fun _ => E0) ev) vs σ H Q := fun σ H Q ⟨η, ρ, S, rp, er, h⟩ =>
  ⟨η, ρ, S, rp, er, FinR.mono (FinR.bind (rel := relJ (gx X ct)) h) fun J H1 ⟨η1, x, S1, f1, rp1, wk, h1⟩ D hD => by
    have rp2 : Rp X.K (η1 ++ [D]) (upd H1 D (.dK [])) (S1 ++ [.dK []]) := rp1.live hD ⟨[], upd_same, rfl, .nil⟩
    have f2 : Fu η1 H1 (η1 ++ [D]) (upd H1 D (.dK [])) := fu_live hD
    have lD : S1.length = η1.length := rp1.len.symm
    refine ⟨fun i m H => m = x.xs.length - i ∧ i ≤ x.xs.length ∧ ∃ η' S', Fu (η1 ++ [D]) (upd H1 D (.dK [])) η' H ∧ Rp X.K η' H S' ∧ FinR (gx X ct) (relW (gx X ct)) (E σ) η' H (dcL x.ok g t ek ev (wipeR ρ vs) S1.length (x.xs.drop i) S') Q,
      ⟨x.xs.length, rfl, Nat.zero_le _, η1 ++ [D], _, Fu.refl _ _, rp2, FinR.fu f2 h1⟩, ?_⟩
    rintro i m H ⟨rfl, hi, η', S', f', rp', h'⟩
    have ok := dc_ok h'
    have gD : ∀ {η2 : List Addr} {H2 : Hp}, Fu (η1 ++ [D]) (upd H1 D (.dK [])) η2 H2 → η2[S1.length]? = some D := fun f => f.get (by rw [lD, List.getElem?_append_right (Nat.le_refl _)]; simp)
    by_cases hlt : i < x.xs.length
    · have ew : x.xs[i]? = some x.xs[i] := List.getElem?_eq_getElem hlt
      rw [List.drop_eq_getElem_cons hlt, dcL, if_pos ok] at h'
      obtain ⟨go, yl⟩ := wk.go η' H S' i _ (f2.trans f') rp' ok ew
      refine .inr ⟨go, fun H => ∃ η' S', Fu (η1 ++ [D]) (upd H1 D (.dK [])) η' H ∧ Rp X.K η' H S' ∧ FinR (gx X ct) (relW (gx X ct)) (E σ) η' H (dcL x.ok g t ek ev (wipeR ρ vs) S1.length (x.xs.drop (i + 1)) S') Q, fun H' q => ⟨_, by omega, rfl, hlt, q⟩, fun y H' yy => ?_⟩
      obtain ⟨f3, rp3, r3⟩ := yl y H' yy
      cases eg : g x.xs[i] (wipeR ρ vs) with
      | none => rw [eg] at h'; exact h'.elim
      | some ρ1 =>
        rw [eg] at h'
        dsimp only at h'
        have h2 := FinR.fu f3 h'
        have f4 := f'.trans f3
        refine ⟨η', wipeR ρ vs, _, ρ1, r3, (((er.fu f1).fu f2).fu f4).wipe vs, eg, fun σ2 er2 z2 => ⟨?_, η', ρ1, S', rp3, er2, ?_⟩⟩
        · rw [z2]
          refine List.ext_getElem? fun j => ?_
          rw [wipe_at, wipe_at, wipe_length]
          by_cases q : j ∈ vs ∧ j < σ.length
          · rw [if_pos q, if_pos q]
          · rw [if_neg q, if_neg q]
        refine FinR.noX (FinR.mono (FinR.bind (rel := relB) h2) fun k H5 ⟨η5, k', S5, f5, rp5, rk, h5⟩ => ?_)
        obtain rfl : k = k' := rk
        have f45 := f4.trans f5
        by_cases hk : k = true
        · rw [if_pos hk] at h5 ⊢
          refine ⟨η5, ρ1, S5, rp5, er2.fu f5, FinR.frz rp5 (FinR.noX (FinR.mono (FinR.bind (rel := relW (gx X ct)) h5) fun y H6 ⟨η6, u, S6, f6, rp6, r6, h6⟩ => ?_))⟩
          refine ⟨η6, ρ1, S6, rp6, (er2.fu f5).fu f6, FinR.frz rp6 (FinR.noX (FinR.mono (FinR.bind (rel := relW (gx X ct)) h6) fun z H7 ⟨η7, u2, S7, f7, rp7, r7, h7⟩ => ?_))⟩
          split at h7
          · rename_i S8 e8
            exact dcPut_ok (P := fun H => ∃ η' S', Fu (η1 ++ [D]) (upd H1 D (.dK [])) η' H ∧ Rp X.K η' H S' ∧ FinR (gx X ct) (relW (gx X ct)) (E σ) η' H (dcL x.ok g t ek ev (wipeR ρ vs) S1.length (x.xs.drop (i + 1)) S') Q) e8 rp7 (gD ((f45.trans f6).trans f7)) (RepW.fu f7 _ _ r6) r7 fun H8 f8 rp8 => ⟨η7, S8, ((f45.trans f6).trans f7).trans f8, rp8, FinR.fu f8 h7⟩
          · exact h7.elim
        · rw [if_neg hk] at h5 ⊢
          exact ⟨η5, S5, f45, rp5, h5⟩
    · have ei : i = x.xs.length := by omega
      subst ei
      rw [List.drop_eq_nil_of_le (Nat.le_refl _), dcL, if_pos ok] at h'
      exact .inl ⟨wk.stop η' H S' (f2.trans f') rp' ok, h' η' H _ (Fu.refl _ _) rp' (.loc (gD f'))⟩⟩
variable {kx vx tg iter : Expr} {ifs : List Expr} {scope : Scope} {own : List (Str × Nat)} {pos : Pos} {it : FK} {g : FG} {t : FT} {ek ev : FE}
theorem i_dc (hc : X.calm = true) (hN : X.N.Nodup) (hi : PI X tg iter (tI (gx X ct) E it)) (ok : BlkOk X.N X.env.scope scope own)
    (hg : ∀ (s : Shared) (H : Hp) (C : Addr) (cl : List (Str × Addr)) (fp : List Addr), PG (X.blk s H scope (compEnvC scope cl C X.env) fp) tg (tGb (gx X ct) (own.map (·.2)) g))
    (ht : ∀ (s : Shared) (H : Hp) (C : Addr) (cl : List (Str × Addr)) (fp : List Addr), PTs (X.blk s H scope (compEnvC scope cl C X.env) fp) ifs (tT (gx X ct) (fun _ => E0) t))
    (hk : ∀ (s : Shared) (H : Hp) (C : Addr) (cl : List (Str × Addr)) (fp : List Addr), PE (X.blk s H scope (compEnvC scope cl C X.env) fp) kx (tF (gx X ct) (fun _ => E0) ek))
    (he : ∀ (s : Shared) (H : Hp) (C : Addr) (cl : List (Str × Addr)) (fp : List Addr), PE (X.blk s H scope (compEnvC scope cl C X.env) fp) vx (tF (gx X ct) (fun _ => E0) ev)) (hs : ∀ x, foldedSetIterable iter X.env x = pure x := by intro _; rfl) :
    PE X (.DictComp kx vx [⟨tg, iter, ifs, 0⟩] scope pos) (tF (gx X ct) E (fDc it g t ek ev (own.map (·.2)))) := PEw (pe_dc hc hN hi ok hg ht hk he hs) dc_key
end
end VI
set_option Elab.async false
set_option linter.all false
set_option maxRecDepth 100000
namespace VI
open PySem PySem.Spec PyProof.Rows L2

/-! dict(pairs) -/
def pairD : PyData → Option (Key × PyData)
  | .tuple [.int i, v] => some (.inl i, v)
  | .tuple [.str x, v] => some (.inr x, v)
  | _ => none
def pairsD : List PyData → Option (List (Key × PyData))
  | [] => some []
  | d :: ds => match pairD d, pairsD ds with
    | some p, some ps => some (p :: ps)
    | _, _ => none
def mergeD (kvs more : List (Key × PyData)) : List (Key × PyData) := more.foldl (fun acc p => putD acc p.1 p.2) kvs
section
variable {K : PySem.W.Frag} {η : List Addr} {H : Hp}
theorem pair_rep {d : PyData} {v : V} {p : Key × PyData} (e : pairD d = some p) (r : RepD K η H d v) : ∃ a x, v = .ref a ∧ SqT K H a [kV p.1, x] ∧ RepD K η H p.2 x := by
  have go : ∀ {a b : PyData}, RepD K η H (.tuple [a, b]) v → ∃ t x y, v = .ref t ∧ SqT K H t [x, y] ∧ RepD K η H a x ∧ RepD K η H b y := fun {a b} r => by
    obtain ⟨t, vs, h1, h2, h3⟩ := asTW_ok (w := .d (.tuple [a, b])) (xs := [.d a, .d b]) rfl (.d r)
    cases h3 with
    | cons h3 h4 =>
      cases h4 with
      | cons h4 h5 =>
        cases h5
        cases h3 with
        | d h3 =>
          cases h4 with
          | d h4 => exact ⟨t, _, _, h1, h2, h3, h4⟩
  unfold pairD at e
  split at e
  · cases e
    obtain ⟨t, x, y, h1, h2, h3, h4⟩ := go r
    cases h3
    exact ⟨t, y, h1, h2, h4⟩
  · cases e
    obtain ⟨t, x, y, h1, h2, h3, h4⟩ := go r
    cases h3
    exact ⟨t, y, h1, h2, h4⟩
  · cases e
theorem pairs_rep : ∀ {ds : List PyData} {vs : List V} {ps : List (Key × PyData)}, pairsD ds = some ps → RepDs K η H ds vs → ∃ (as : List Addr) (kvs : List (Key × V)), vs = as.map V.ref ∧ Paired (fun p kv => SqT K H p [kV kv.1, kv.2]) as kvs ∧ ps.map (·.1) = kvs.map (·.1) ∧ RepDs K η H (ps.map (·.2)) (kvs.map (·.2))
  | [], _, _, e, r => by
    cases r
    cases e
    exact ⟨[], [], rfl, .nil, rfl, .nil⟩
  | d :: ds, _, _, e, r => by
    cases r with
    | cons r1 r2 =>
      unfold pairsD at e
      split at e
      · rename_i p ps e1 e2
        cases e
        obtain ⟨a, x, rfl, h1, h2⟩ := pair_rep e1 r1
        obtain ⟨as, kvs, rfl, h3, h4, h5⟩ := pairs_rep e2 r2
        exact ⟨a :: as, (p.1, x) :: kvs, rfl, .cons h1 h3, by rw [List.map_cons, List.map_cons, h4], .cons h2 h5⟩
      · cases e
theorem merge_rep : ∀ {more : List (Key × PyData)} {mv : List (Key × V)} {kvs : List (Key × PyData)} {vs : List (Key × V)}, more.map (·.1) = mv.map (·.1) → RepDs K η H (more.map (·.2)) (mv.map (·.2)) → kvs.map (·.1) = vs.map (·.1) → RepDs K η H (kvs.map (·.2)) (vs.map (·.2)) →
    (mergeD kvs more).map (·.1) = (mergeK vs mv).map (·.1) ∧ RepDs K η H ((mergeD kvs more).map (·.2)) ((mergeK vs mv).map (·.2))
  | [], [], _, _, _, _, h1, h2 => ⟨h1, h2⟩
  | [], _ :: _, _, _, e, _, _, _ => by cases e
  | _ :: _, [], _, _, e, _, _, _ => by cases e
  | p :: more, q :: mv, kvs, vs, e, r, h1, h2 => by
    rw [List.map_cons, List.map_cons] at e r
    have e1 : p.1 = q.1 := (List.cons.inj e).1
    cases r with
    | cons r1 r2 =>
      obtain ⟨p1, p2⟩ := put_rep (k := p.1) r1 h1 h2
      rw [e1] at p1 p2
      have := merge_rep (List.cons.inj e).2 r2 p1 p2
      show ((mergeD (putD kvs p.1 p.2) more).map _) = ((mergeK (putK vs q.1 q.2) mv).map _) ∧ RepDs K η H ((mergeD (putD kvs p.1 p.2) more).map _) ((mergeK (putK vs q.1 q.2) mv).map _)
      rw [e1]
      exact this
end
section
variable {X : Cx} {ct : Nat → Option Addr} {E : EX}
def gDictP (ws : List W) (S : Store) : O := match ws with
  | [.d (.list xs)] => match pairsD xs with
    | some ps => some (.loc S.length, S ++ [.dK (mergeD [] ps)])
    | none => none
  | [.loc l] => match S[l]? with
    | some (.lst xs) => match pairsD xs with
      | some ps => some (.loc S.length, S ++ [.dK (mergeD [] ps)])
      | none => none
    | _ => none
  | _ => none
theorem fin_dict {η : List Addr} {H : Hp} {S : Store} {Q : VK} {kvs : List (Key × PyData)} {vs : List (Key × V)} (rp : Rp X.K η H S) (e1 : kvs.map (·.1) = vs.map (·.1)) (e2 : RepDs X.K η H (kvs.map (·.2)) (vs.map (·.2))) (h : FinO (gx X ct) η H (some (.loc S.length, S ++ [.dK kvs])) Q) : ∀ p, H p = none → Q (.ref p) (upd H p (.dK vs)) := fun p hp => by
  have f : Fu η H (η ++ [p]) (upd H p (.dK vs)) := fu_live hp
  exact h (η ++ [p]) _ _ f (rp.live hp ⟨vs, upd_same, e1, RepDs.fu f _ _ e2⟩) (.loc (by rw [← rp.len]; simp))
end
end VI
set_option Elab.async false
set_option linter.all false
set_option maxRecDepth 100000
namespace VI
open PySem PySem.Spec PyProof.Rows L2
section
variable {X : Cx} {ct : Nat → Option Addr} {E : EX}
theorem chain_key {g g' : W → W → Store → O} {fa fb fc : FE} {σ : L2.St} {H : Hp} {Q : VK} (h : tF (gx X ct) E (fChain g g' fa fb fc) σ H Q) : tChain (Sim2 X ct g) (Sim2 X ct g') (tF (gx X ct) E fa) (tF (gx X ct) E fb) (tF (gx X ct) E fc) σ H Q := by
  obtain ⟨η, ρ, S, rp, er, h⟩ := h
  exact ⟨η, ρ, S, rp, er, FinR.mono (FinR.bind h) fun v H1 ⟨η1, w, S1, f, rp1, r1, h1⟩ =>
    ⟨η1, ρ, S1, rp1, er.fu f, FinR.mono (FinR.bind h1) fun v2 H2 ⟨η2, w2, S2, f2, rp2, r2, h2⟩ => ⟨η2, S2, w, w2, rp2, RepW.fu f2 _ _ r1, r2, by
      have r1' := RepW.fu f2 _ _ r1
      refine FinO.mono (lift_ok (FinR.bind (rel := relW (gx X ct)) h2)) fun z H3 ⟨η3, k, S3, f3, rp3, r3, h3⟩ => ?_
      split at h3
      · cases r3 with
        | d r3 =>
          cases r3
          exact ⟨true, rfl, iteT ⟨η3, ρ, S3, rp3, ((er.fu f).fu f2).fu f3, FinR.mono (FinR.bind h3) fun v4 H4 ⟨η4, w4, S4, f4, rp4, r4, h4⟩ => ⟨η4, S4, w2, w4, rp4, RepW.fu f4 _ _ (RepW.fu f3 _ _ r2), r4, lift_ok h4⟩⟩⟩
      · cases r3 with
        | d r3 =>
          cases r3
          exact ⟨false, rfl, iteF (h3 η3 H3 _ (Fu.refl _ _) rp3 (.d (.bool _)))⟩
      · exact h3.elim⟩⟩⟩
/-- a op b op c, as a test -/
theorem t_chain {op op' : CmpOp} {g g' : W → W → Store → O} {a b c : Expr} {fa fb fc : FE} {pos : Pos} (ho : OpR X (compareOp op) (Sim2 X ct g)) (ho' : OpR X (compareOp op') (Sim2 X ct g')) (ha : PE X a (tF (gx X ct) E fa)) (hb : PE X b (tF (gx X ct) E fb)) (hc : PE X c (tF (gx X ct) E fc))
    (hm : lastMarks [op, op'] [b, c] = false := by with_unfolding_all rfl) : PT X (.Compare a [op, op'] [b, c] pos) (tT (gx X ct) E (fTest (fChain g g' fa fb fc))) := PTw (pt_chain ho ho' ha hb hc hm) fun σ H Q ⟨η, ρ, S, rp, er, h⟩ => by
  have key : tF (gx X ct) E (fChain g g' fa fb fc) σ H fun x H' => ∃ k, x = .bl k ∧ Q k H' := ⟨η, ρ, S, rp, er, FinR.mono (FinR.bind h) fun v H1 ⟨η1, w, S1, f, rp1, r1, h1⟩ => by
    unfold boolW at h1
    split at h1
    · cases r1 with
      | d r1 => cases r1; exact ⟨_, rfl, h1 η1 H1 _ (Fu.refl _ _) rp1 rfl⟩
    · exact h1.elim⟩
  exact chain_key key
/-- not in, of texts and of sequences -/
def gNotInS (a b : W) (S : Store) : O := match a, b with
  | .d (.str i), .d (.str j) => some (.d (.bool (!(!(Builtin.Str.occurrences j i 0 j.length 1).isEmpty))), S)
  | _, _ => none
def gNotInA (a b : W) (S : Store) : O := match gNotInS a b S with
  | some o => some o
  | none => gIn true a b S
theorem sim_notInS : OpR X (compareOp .NotIn) (Sim2 X ct gNotInS) := OpR.fit op_notin_str fun x y H Q ⟨η, S, wx, wy, rp, rx, ry, h⟩ => by
  unfold gNotInS at h
  split at h
  · cases rx with
    | d rx =>
      cases ry with
      | d ry =>
        cases rx
        cases ry
        exact ⟨_, _, rfl, rfl, same_val rp (.d (.bool _)) h⟩
  · exact h.elim
theorem sim_notInA : OpR X (compareOp .NotIn) (Sim2 X ct gNotInA) := OpR.orElse sim_notInS sim_notIn
end
end VI
set_option Elab.async false
set_option linter.all false
set_option maxRecDepth 100000
namespace VI
open PySem PySem.Spec PyProof.Rows L2

/-! == of alike data that may hold dicts -/
mutual
def sameP : PyData → PyData → Bool
  | .none, .none => true
  | .bool a, .bool b => a == b
  | .int i, .int j => decide (i = j)
  | .str x, .str y => decide (x = y)
  | .list xs, .list ys => samePs xs ys
  | .tuple xs, .tuple ys => samePs xs ys
  | .dict xs, .dict ys => sameKv xs ys
  | _, _ => false
def samePs : List PyData → List PyData → Bool
  | [], [] => true
  | x :: xs, y :: ys => sameP x y && samePs xs ys
  | _, _ => false
def sameKv : List (PyData × PyData) → List (PyData × PyData) → Bool
  | [], [] => true
  | (a, b) :: r, (c, d) :: t => sameP a c && (sameP b d && sameKv r t)
  | _, _ => false
end
mutual
theorem sameP_eq : ∀ x y : PyData, sameP x y = true → x = y
  | .none, y, h => by cases y <;> first | rfl | (rw [sameP] at h; cases h; done) | (simp [sameP] at h)
  | .bool a, y, h => by cases y <;> simp [sameP] at h; rw [h]
  | .int a, y, h => by cases y <;> simp [sameP] at h; rw [h]
  | .str a, y, h => by cases y <;> simp [sameP] at h; rw [h]
  | .list xs, y, h => by cases y <;> simp [sameP] at h; rw [samePs_eq xs _ h]
  | .tuple xs, y, h => by cases y <;> simp [sameP] at h; rw [samePs_eq xs _ h]
  | .dict xs, y, h => by cases y <;> simp [sameP] at h; rw [sameKv_eq xs _ h]
theorem samePs_eq : ∀ xs ys : List PyData, samePs xs ys = true → xs = ys
  | [], ys, h => by cases ys <;> simp [samePs] at h; rfl
  | x :: xs, ys, h => by
    cases ys with
    | nil => simp [samePs] at h
    | cons y ys => simp only [samePs, Bool.and_eq_true] at h; rw [sameP_eq x y h.1, samePs_eq xs ys h.2]
theorem sameKv_eq : ∀ xs ys : List (PyData × PyData), sameKv xs ys = true → xs = ys
  | [], ys, h => by cases ys <;> simp [sameKv] at h; rfl
  | (a, b) :: xs, ys, h => by
    cases ys with
    | nil => simp [sameKv] at h
    | cons y ys => obtain ⟨c, d⟩ := y; simp only [sameKv, Bool.and_eq_true] at h; rw [sameP_eq a c h.1, sameP_eq b d h.2.1, sameKv_eq xs ys h.2.2]
end
mutual
theorem sameP_self : ∀ x : PyData, sameP x x = true
  | .none => by simp [sameP]
  | .bool _ => by simp [sameP]
  | .int _ => by simp [sameP]
  | .str _ => by simp [sameP]
  | .list xs => by simp [sameP, samePs_self xs]
  | .tuple xs => by simp [sameP, samePs_self xs]
  | .dict xs => by simp [sameP, sameKv_self xs]
theorem samePs_self : ∀ x : List PyData, samePs x x = true
  | [] => by simp [samePs]
  | x :: xs => by simp [samePs, sameP_self x, samePs_self xs]
theorem sameKv_self : ∀ x : List (PyData × PyData), sameKv x x = true
  | [] => by simp [sameKv]
  | (a, b) :: xs => by simp [sameKv, sameP_self a, sameP_self b, sameKv_self xs]
end
mutual
/-- data whose dicts are told whole, and have an entry at most -/
def eqOk : PyData → Bool
  | .list xs => eqOks xs
  | .tuple xs => eqOks xs
  | .dict ((.bool true, .none) :: ps) => decide (ps.length ≤ 1) && eqOkv ps
  | .dict _ => false
  | _ => true
def eqOks : List PyData → Bool
  | [] => true
  | x :: xs => eqOk x && eqOks xs
def eqOkv : List (PyData × PyData) → Bool
  | [] => true
  | (_, v) :: r => flatD v && eqOkv r
end
section
variable {K : PySem.W.Frag} {η : List Addr} {H : Hp} {S : Store}
/-- v stands for a value that is the data d -/
def DW (K : PySem.W.Frag) (η : List Addr) (H : Hp) (S : Store) (d : PyData) (v : V) : Prop := ∃ w, asD w S = some d ∧ RepW K η H w v
inductive DWs (K : PySem.W.Frag) (η : List Addr) (H : Hp) (S : Store) : List PyData → List V → Prop
  | nil : DWs K η H S [] []
  | cons {d : PyData} {ds : List PyData} {v : V} {vs : List V} : DW K η H S d v → DWs K η H S ds vs → DWs K η H S (d :: ds) (v :: vs)
theorem DW.ofD {d : PyData} {v : V} (r : RepD K η H d v) : DW K η H S d v := ⟨.d d, by rw [asD], .d r⟩
theorem DWs.ofD : ∀ {ds : List PyData} {vs : List V}, RepDs K η H ds vs → DWs K η H S ds vs
  | [], _, h => by cases h; exact .nil
  | _ :: _, _, h => by cases h with | cons h1 h2 => exact .cons (.ofD h1) (DWs.ofD h2)
theorem DWs.ofW : ∀ {ws : List W} {ds : List PyData} {vs : List V}, asDs ws S = some ds → RepWs K η H ws vs → DWs K η H S ds vs
  | [], ds, vs, e, h => by rw [asDs] at e; cases e; cases h; exact .nil
  | w :: ws, ds, vs, e, h => by
    rw [asDs] at e
    cases h with
    | cons h1 h2 =>
      split at e
      · rename_i d ds e1 e2
        cases e
        exact .cons ⟨w, e1, h1⟩ (DWs.ofW e2 h2)
      · cases e
theorem DWs.len : ∀ {ds : List PyData} {vs : List V}, DWs K η H S ds vs → ds.length = vs.length
  | _, _, .nil => rfl
  | _, _, .cons _ h => by rw [List.length_cons, List.length_cons, DWs.len h]
theorem DW.list (rp : Rp K η H S) {ds : List PyData} {v : V} (h : DW K η H S (.list ds) v) : ∃ a vs, v = .ref a ∧ SqL K H a vs ∧ DWs K η H S ds vs := by
  obtain ⟨w, e, r⟩ := h
  cases w with
  | d x =>
    rw [asD] at e
    cases e
    cases r with
    | d r => cases r with | list h1 h2 h3 => exact ⟨_, _, rfl, SqL.of h1, .ofD h3⟩
  | loc l =>
    rw [asD] at e
    cases r with
    | loc r =>
      cases q : S[l]? with
      | none => rw [q] at e; cases e
      | some o =>
        rw [q] at e
        cases o with
        | lst ws =>
          cases e
          obtain ⟨vs, h1, h2⟩ := rp.all _ _ _ r q
          exact ⟨_, vs, rfl, SqL.of h1, .ofD h2⟩
        | dK _ => cases e
        | dT _ => cases e
        | ob _ _ => cases e
        | lw _ => cases e
  | tp ws =>
    rw [asD] at e
    split at e <;> cases e
  | fro _ => rw [asD] at e; cases e
  | er _ _ _ => rw [asD] at e; cases e
  | lw ws =>
    rw [asD] at e
    cases r with
    | lw h1 _ h2 =>
      cases q : asDs ws S with
      | none => rw [q] at e; cases e
      | some ds => rw [q] at e; cases e; exact ⟨_, _, rfl, SqL.of h1, .ofW q h2⟩
theorem DW.tuple {ds : List PyData} {v : V} (h : DW K η H S (.tuple ds) v) : ∃ a vs, v = .ref a ∧ SqT K H a vs ∧ DWs K η H S ds vs := by
  obtain ⟨w, e, r⟩ := h
  cases w with
  | d x =>
    rw [asD] at e
    cases e
    cases r with
    | d r => cases r with | tuple h1 h2 => exact ⟨_, _, rfl, h1, .ofD h2⟩
  | loc l =>
    rw [asD] at e
    split at e <;> cases e
  | tp ws =>
    rw [asD] at e
    cases r with
    | tp h1 h2 =>
      cases q : asDs ws S with
      | none => rw [q] at e; cases e
      | some ds => rw [q] at e; cases e; exact ⟨_, _, rfl, h1, .ofW q h2⟩
  | fro _ => rw [asD] at e; cases e
  | er _ _ _ => rw [asD] at e; cases e
  | lw ws =>
    rw [asD] at e
    split at e <;> cases e
theorem DW.leaf {d : PyData} {v : V} (h : DW K η H S d v) (n1 : ∀ ds, d ≠ .list ds) (n2 : ∀ ds, d ≠ .tuple ds) : RepD K η H d v := by
  obtain ⟨w, e, r⟩ := h
  cases w with
  | d x => rw [asD] at e; cases e; cases r with | d r => exact r
  | loc l =>
    rw [asD] at e
    split at e
    · cases e; exact (n1 _ rfl).elim
    · cases e
  | tp ws =>
    rw [asD] at e
    split at e
    · cases e; exact (n2 _ rfl).elim
    · cases e
  | fro _ => rw [asD] at e; cases e
  | er _ _ _ => rw [asD] at e; cases e
  | lw ws =>
    rw [asD] at e
    split at e
    · cases e; exact (n1 _ rfl).elim
    · cases e
end
section
variable {X : Cx} {pins : List (Addr × Obj)} {σ : L2.St} {H : Hp} {s : Shared} {η : List Addr} {S : Store}
theorem all_true (n : Nat) : (List.range n).all (fun _ => true) = true := by simp
theorem leaf_int (i : Int) (t t' : Tok) (n : Nat) : PySem.W.EqTree X.prog X.w s n (.int i t) (.int i t') true := .leaf fun A _ => by
  have := SeqAt.EqAt.int_int (A := A) (s := s) i t i t'
  rw [beq_self_eq_true] at this
  exact this
theorem leaf_str (i : Str) (t t' : Tok) (n : Nat) : PySem.W.EqTree X.prog X.w s n (.str i t) (.str i t') true := .leaf fun A _ => by
  have := SeqAt.EqAt.str_str (A := A) (s := s) i t i t'
  rw [beq_self_eq_true] at this
  exact this
theorem flat_tree {d : PyData} {v v' : V} (r : RepD X.K η H d v) (r' : RepD X.K η H d v') (f : flatD d = true) {u u' : Value} (ru : RelV v u) (ru' : RelV v' u') (n : Nat) : PySem.W.EqTree X.prog X.w s n u u' true := by
  cases r with
  | none => cases r'; cases ru; cases ru'; exact .same
  | bool b => cases r'; cases ru; cases ru'; exact .same
  | int i => cases r'; obtain ⟨t, rfl⟩ := ru; obtain ⟨t', rfl⟩ := ru'; exact leaf_int i t t' n
  | str x => cases r'; obtain ⟨t, rfl⟩ := ru; obtain ⟨t', rfl⟩ := ru'; exact leaf_str x t t' n
  | _ => cases f
theorem one_map {α β : Type} {f : α → β} {b : β} {l : List α} (h : [b] = l.map f) : ∃ a, l = [a] ∧ f a = b := by
  cases l with
  | nil => cases h
  | cons a l =>
    rw [List.map_cons] at h
    obtain ⟨h1, h2⟩ := List.cons.inj h
    exact ⟨a, by rw [List.map_eq_nil_iff.mp h2.symm], h1.symm⟩
theorem keyD_inj {a b : Key} (h : keyD a = keyD b) : a = b := by
  cases a <;> cases b <;> cases h <;> rfl
theorem dict_one {a a' : Addr} {k1 : Key} {v1 v2 : V} {vs vs' : List (Key × Value)} {n : Nat} (ea : a ≠ a') (hsm : (a == sysModules) = false) (hsm' : (a' == sysModules) = false) (kv : KV [(k1, v1)] vs) (kv' : KV [(k1, v2)] vs') (da : s.heap.DictOf (mixKind X.prog X.w) a vs) (da' : s.heap.DictOf (mixKind X.prog X.w) a' vs')
    (h : ∀ zv zv', RelV v1 zv → RelV v2 zv' → PySem.W.EqTree X.prog X.w s n zv zv' true) : PySem.W.EqTree X.prog X.w s (n + 1) (.ref a) (.ref a') true := by
  cases kv with
  | cons kv0 kv1 =>
  cases kv' with
  | cons kw0 kw1 =>
  cases kv1
  cases kw1
  rename_i z z'
  obtain ⟨zk, zv⟩ := z
  obtain ⟨zk', zv'⟩ := z'
  obtain ⟨e1, r1⟩ := kv0
  obtain ⟨e2, r2⟩ := kw0
  dsimp only at e1 e2 r1 r2
  subst e1
  subst e2
  have hv : ∀ y, valueAt [(k1, zv')] k1 = some y → zv' = y := fun y hy => by
    have e : valueAt [(k1, zv')] k1 = some zv' := by simp [valueAt]
    rw [e] at hy
    exact Option.some.inj hy
  have t := PySem.W.EqTree.dicts (n := n) (knd := mixKind X.prog X.w) (ka := [(k1, zv)]) (kb := [(k1, zv')]) (e := fun _ => true) ea hsm hsm' da da' (fun k v y m hy => by
    have em := List.mem_singleton.mp m
    obtain ⟨rfl, rfl⟩ := Prod.mk.inj em
    rw [← hv y hy]
    exact h _ _ r1 r2)
  have ev : (([(k1, zv)] : List (Key × Value)).length == ([(k1, zv')] : List (Key × Value)).length && ([(k1, zv)] : List (Key × Value)).all fun p => (valueAt [(k1, zv')] p.1).isSome && true) = true := by
    simp [valueAt]
  rw [ev] at t
  exact t
theorem dict_tree (I : Inv X pins σ H s) {ps : List (PyData × PyData)} {v v' : V} (r : RepD X.K η H (.dict ((.bool true, .none) :: ps)) v) (r' : RepD X.K η H (.dict ((.bool true, .none) :: ps)) v') (hl : ps.length ≤ 1) (f : eqOkv ps = true) {u u' : Value} (ru : RelV v u) (ru' : RelV v' u') (n : Nat) : PySem.W.EqTree X.prog X.w s (n + 1) u u' true := by
  cases r with
  | dctE h1 h2 h3 h4 =>
    cases r' with
    | dctE g1 g2 g3 g4 =>
      rename_i a kvs a' kvs'
      cases ru
      cases ru'
      by_cases ea : a = a'
      · subst ea; exact .same
      obtain ⟨_, hsm, vs, kv, da⟩ := I.hok _ _ h1
      obtain ⟨_, hsm', vs', kv', da'⟩ := I.hok _ _ g1
      cases ps with
      | nil =>
        obtain rfl : kvs = [] := List.map_eq_nil_iff.mp h3.symm
        obtain rfl : kvs' = [] := List.map_eq_nil_iff.mp g3.symm
        cases kv
        cases kv'
        exact PySem.W.EqTree.dicts (knd := mixKind X.prog X.w) (ka := []) (kb := []) (e := fun _ => true) ea hsm hsm' da da' (fun k v y m _ => by cases m)
      | cons p ps =>
        obtain rfl : ps = [] := by simpa using hl
        obtain ⟨k, x⟩ := p
        obtain ⟨⟨k1, v1⟩, rfl, ek1⟩ := one_map h3
        obtain ⟨⟨k2, v2⟩, rfl, ek2⟩ := one_map g3
        have fx : flatD x = true := by
          rw [eqOkv, Bool.and_eq_true] at f
          exact f.1
        have ek : k1 = k2 := keyD_inj (ek1.trans ek2.symm)
        subst ek
        have q4 : RepD X.K η H x v1 := by cases h4 with | cons h _ => exact h
        have q4' : RepD X.K η H x v2 := by cases g4 with | cons h _ => exact h
        exact dict_one ea hsm hsm' kv kv' da da' (fun zv zv' r1 r2 => flat_tree q4 q4' fx r1 r2 n)
mutual
theorem DW.tree (I : Inv X pins σ H s) (rp : Rp X.K η H S) : ∀ (d : PyData) (v v' : V), DW X.K η H S d v → DW X.K η H S d v' → eqOk d = true → ∀ u u', RelV v u → RelV v' u' → ∀ n, d.depth ≤ n → PySem.W.EqTree X.prog X.w s n u u' true
  | .none, v, v', r, r', _, u, u', ru, ru', n, _ => flat_tree (r.leaf (fun _ z => nomatch z) (fun _ z => nomatch z)) (r'.leaf (fun _ z => nomatch z) (fun _ z => nomatch z)) rfl ru ru' n
  | .bool b, v, v', r, r', _, u, u', ru, ru', n, _ => flat_tree (r.leaf (fun _ z => nomatch z) (fun _ z => nomatch z)) (r'.leaf (fun _ z => nomatch z) (fun _ z => nomatch z)) rfl ru ru' n
  | .int i, v, v', r, r', _, u, u', ru, ru', n, _ => flat_tree (r.leaf (fun _ z => nomatch z) (fun _ z => nomatch z)) (r'.leaf (fun _ z => nomatch z) (fun _ z => nomatch z)) rfl ru ru' n
  | .str x, v, v', r, r', _, u, u', ru, ru', n, _ => flat_tree (r.leaf (fun _ z => nomatch z) (fun _ z => nomatch z)) (r'.leaf (fun _ z => nomatch z) (fun _ z => nomatch z)) rfl ru ru' n
  | .list ds, v, v', r, r', k, u, u', ru, ru', n, hn => by
    obtain ⟨a, vs, rfl, h1, h2⟩ := r.list rp
    obtain ⟨a', vs', rfl, g1, g2⟩ := r'.list rp
    cases ru
    cases ru'
    by_cases ea : a = a'
    · subst ea; exact .same
    obtain ⟨its, rv, p, _⟩ := I.list h1
    obtain ⟨its', rv', p', _⟩ := I.list g1
    have hn' : (PyData.depthAll ds) + 1 ≤ n := by simpa [PyData.depth] using hn
    obtain ⟨m, rfl⟩ : ∃ m, n = m + 1 := ⟨n - 1, by omega⟩
    have l1 := h2.len
    have l2 := g2.len
    have l3 := rv.length
    have l4 := rv'.length
    have t := PySem.W.EqTree.lists (e := fun _ => true) ea p.isList p'.isList (by simp; omega) (fun j q1 q2 => DWs.tree I rp ds vs vs' h2 g2 k its its' rv rv' m (by omega) j (by simpa using q1) (by simpa using q2))
    rw [all_true] at t
    exact t
  | .tuple ds, v, v', r, r', k, u, u', ru, ru', n, hn => by
    obtain ⟨a, vs, rfl, h1, h2⟩ := r.tuple
    obtain ⟨a', vs', rfl, g1, g2⟩ := r'.tuple
    cases ru
    cases ru'
    by_cases ea : a = a'
    · subst ea; exact .same
    obtain ⟨its, rv, ⟨o, ho, hc, q, hd⟩, _⟩ := I.tuple h1
    obtain ⟨its', rv', ⟨o', ho', hc', q', hd'⟩, _⟩ := I.tuple g1
    have hn' : (PyData.depthAll ds) + 1 ≤ n := by simpa [PyData.depth] using hn
    obtain ⟨m, rfl⟩ : ∃ m, n = m + 1 := ⟨n - 1, by omega⟩
    have l1 := h2.len
    have l2 := g2.len
    have l3 := rv.length
    have l4 := rv'.length
    have t := PySem.W.EqTree.tuples (e := fun _ => true) ea ⟨o, ho, hc, q, hd⟩ ⟨o', ho', hc', q', hd'⟩ (fun j q1 q2 => DWs.tree I rp ds vs vs' h2 g2 k its its' rv rv' m (by omega) j (by simpa using q1) (by simpa using q2))
    have ez : its.toArray.size = its'.toArray.size := by simp; omega
    rw [all_true, Bool.true_and, ez, beq_self_eq_true] at t
    exact t
  | .dict ((.bool true, .none) :: ps), v, v', r, r', k, u, u', ru, ru', n, hn => by
    have hn' : 1 ≤ n := by simp [PyData.depth] at hn; omega
    obtain ⟨m, rfl⟩ : ∃ m, n = m + 1 := ⟨n - 1, by omega⟩
    rw [eqOk, Bool.and_eq_true, decide_eq_true_eq] at k
    exact dict_tree I (r.leaf (fun _ z => nomatch z) (fun _ z => nomatch z)) (r'.leaf (fun _ z => nomatch z) (fun _ z => nomatch z)) k.1 k.2 ru ru' m
  | .dict [], v, v', r, r', k, u, u', ru, ru', n, hn => by simp [eqOk] at k
  | .dict ((.none, _) :: _), v, v', r, r', k, u, u', ru, ru', n, hn => by simp [eqOk] at k
  | .dict ((.int _, _) :: _), v, v', r, r', k, u, u', ru, ru', n, hn => by simp [eqOk] at k
  | .dict ((.str _, _) :: _), v, v', r, r', k, u, u', ru, ru', n, hn => by simp [eqOk] at k
  | .dict ((.list _, _) :: _), v, v', r, r', k, u, u', ru, ru', n, hn => by simp [eqOk] at k
  | .dict ((.tuple _, _) :: _), v, v', r, r', k, u, u', ru, ru', n, hn => by simp [eqOk] at k
  | .dict ((.dict _, _) :: _), v, v', r, r', k, u, u', ru, ru', n, hn => by simp [eqOk] at k
  | .dict ((.bool false, _) :: _), v, v', r, r', k, u, u', ru, ru', n, hn => by simp [eqOk] at k
  | .dict ((.bool true, .bool _) :: _), v, v', r, r', k, u, u', ru, ru', n, hn => by simp [eqOk] at k
  | .dict ((.bool true, .int _) :: _), v, v', r, r', k, u, u', ru, ru', n, hn => by simp [eqOk] at k
  | .dict ((.bool true, .str _) :: _), v, v', r, r', k, u, u', ru, ru', n, hn => by simp [eqOk] at k
  | .dict ((.bool true, .list _) :: _), v, v', r, r', k, u, u', ru, ru', n, hn => by simp [eqOk] at k
  | .dict ((.bool true, .tuple _) :: _), v, v', r, r', k, u, u', ru, ru', n, hn => by simp [eqOk] at k
  | .dict ((.bool true, .dict _) :: _), v, v', r, r', k, u, u', ru, ru', n, hn => by simp [eqOk] at k
theorem DWs.tree (I : Inv X pins σ H s) (rp : Rp X.K η H S) : ∀ (ds : List PyData) (vs vs' : List V), DWs X.K η H S ds vs → DWs X.K η H S ds vs' → eqOks ds = true → ∀ us us', Vals vs us → Vals vs' us' → ∀ n, (PyData.depthAll ds) ≤ n → ∀ (j : Nat) (h1 : j < us.length) (h2 : j < us'.length), PySem.W.EqTree X.prog X.w s n us[j] us'[j] true
  | [], vs, vs', r, r', _, us, us', rv, rv', n, hn, j, h1, h2 => by
    cases r
    cases rv
    simp at h1
  | d :: ds, vs, vs', r, r', k, us, us', rv, rv', n, hn, j, h1, h2 => by
    cases r with
    | cons r1 r2 =>
      cases r' with
      | cons s1 s2 =>
        cases rv with
        | cons v1 v2 =>
          cases rv' with
          | cons w1 w2 =>
            rw [eqOks, Bool.and_eq_true] at k
            have hn' : max d.depth (PyData.depthAll ds) ≤ n := by simpa [PyData.depthAll] using hn
            cases j with
            | zero => exact DW.tree I rp d _ _ r1 s1 k.1 _ _ v1 w1 n (by omega)
            | succ j => exact DWs.tree I rp ds _ _ r2 s2 k.2 _ _ v2 w2 n (by omega) j (by simpa using h1) (by simpa using h2)
end
end
section
variable {X : Cx} {ct : Nat → Option Addr} {E : EX}
def gEqR (a b : W) (S : Store) : O := match asD a S, asD b S with
  | some (.list xs), some (.list ys) => if samePs xs ys = true ∧ eqOks xs = true ∧ PyData.depthAll xs ≤ 60 then some (.d (.bool true), S) else none
  | _, _ => none
theorem sim_eqR (hu : X.A.units + 64 < cLine) : OpR X (compareOp .Eq) (Sim2 X ct gEqR) := by
  intro pins s σ H x y v u Q I rx ry ⟨η, S, wx, wy, rp, r1, r2, q⟩
  unfold gEqR at q
  split at q
  · rename_i xs ys e1 e2
    split at q
    · rename_i hz
      obtain ⟨hs, hk, hd⟩ := hz
      obtain rfl := samePs_eq xs ys hs
      obtain ⟨a, vs, rfl, h1, h2⟩ := DW.list rp ⟨wx, e1, r1⟩
      obtain ⟨a', vs', rfl, g1, g2⟩ := DW.list rp ⟨wy, e2, r2⟩
      cases rx
      cases ry
      obtain ⟨its, rv, p, _⟩ := I.list h1
      obtain ⟨its', rv', p', _⟩ := I.list g1
      have l1 := h2.len
      have l2 := g2.len
      have l3 := rv.length
      have l4 := rv'.length
      refine PySem.W.eq_listsT (n := 60) (e := fun _ => true) p.isList p'.isList (by simp; omega) (fun j q1 q2 => DWs.tree I rp xs vs vs' h2 g2 hk its its' rv rv' 60 hd j (by simpa using q1) (by simpa using q2)) (by omega) ?_
      rw [all_true]
      exact ⟨.bl true, H, I, rfl, same_val rp (.d (.bool true)) q⟩
    · exact q.elim
  · exact q.elim
/-- ==, of data with dicts too -/
def gEqA (a b : W) (S : Store) : O := match gEq a b S with
  | some o => some o
  | none => gEqR a b S
theorem sim_eqA (hu : X.A.units + 64 < cLine) : OpR X (compareOp .Eq) (Sim2 X ct gEqA) := OpR.orElse (sim_eq hu) (sim_eqR hu)
end
end VI
set_option Elab.async false
set_option linter.all false
set_option maxRecDepth 100000
namespace VI
open PySem PySem.Spec PyProof.Rows L2

/-! lists of any values -/
def mkL (ws : List W) : W := match datas ws with
  | some ds => .d (.list ds)
  | none => .lw ws
section
variable {K : PySem.W.Frag} {ct : Nat → Option Addr} {η : List Addr} {H : Hp} {S : Store} {Q : VK} {w : W} {v : V}
theorem new_mkL {ws : List W} {vs : List V} (rp : Rp K η H S) (r : RepWs K η H ws vs) (h : FinO ⟨K, ct⟩ η H (some (mkL ws, S)) Q) : ∀ p, H p = none → Q (.ref p) (upd H p (.lst vs)) := by
  unfold mkL at h
  cases q : datas ws with
  | some ds => rw [q] at h; exact new_list rp (datas_ok q r) h
  | none =>
    rw [q] at h
    exact fun p hp => h η _ _ (fu_new hp) (rp.new hp) (.lw upd_same (rp.notin hp) (RepWs.fu (fu_new hp) _ _ r))
theorem new_liveW {ws : List W} {vs : List V} (rp : Rp K η H S) (r : RepWs K η H ws vs) (hl : locsBs S.length ws = true) (h : FinO ⟨K, ct⟩ η H (some (.loc S.length, S ++ [.lw ws])) Q) : ∀ p, H p = none → Q (.ref p) (upd H p (.lst vs)) := fun p hp =>
  h (η ++ [p]) _ _ (fu_live hp) (rp.live hp ⟨vs, upd_same, RepWs.fu (fu_live hp) _ _ r⟩ hl) (.loc (by rw [← rp.len]; simp))
theorem write_lw {l : Nat} {a : Addr} {ws : List W} {vs : List V} {w : W} {v : V} (rp : Rp K η H S) (ha : η[l]? = some a) (r : RepWs K η H ws vs) (hl : locsBs l ws = true) (rw_ : RepW K η H w v) (h : FinO ⟨K, ct⟩ η H (some (w, S.set l (.lw ws))) Q) :
    Q v (upd H a (.lst vs)) := by
  have m : a ∈ η := List.mem_of_getElem? ha
  obtain ⟨u, hu, mu⟩ := rp.there m
  have f : Fu η H η (upd H a (.lst vs)) := fu_write m hu mu
  exact h η _ v f (rp.write ha ⟨vs, upd_same, RepWs.fu f _ _ r⟩ hl) (RepW.fu f _ _ rw_)
/-- the members of a list that is none of the module's -/
def asX (w : W) (S : Store) : Option (List W) := match w with
  | .d (.list xs) => some (xs.map W.d)
  | .lw xs => some xs
  | .loc l => match S[l]? with
    | some (.lst xs) => some (xs.map W.d)
    | some (.lw xs) => some xs
    | _ => none
  | _ => none
theorem asX_ok {xs : List W} (e : asX w S = some xs) (rp : Rp K η H S) (r : RepW K η H w v) : ∃ a vs, v = .ref a ∧ H a = some (.lst vs) ∧ RepWs K η H xs vs := by
  unfold asX at e
  split at e
  · cases e
    cases r with
    | d r => cases r with | list h1 h2 h3 => exact ⟨_, _, rfl, h1, RepWs.ofD h3⟩
  · cases e
    cases r with
    | lw h1 h2 h3 => exact ⟨_, _, rfl, h1, h3⟩
  · cases r with
    | loc r =>
      split at e
      · rename_i q
        cases e
        obtain ⟨vs, h1, h2⟩ := rp.all _ _ _ r q
        exact ⟨_, vs, rfl, h1, RepWs.ofD h2⟩
      · rename_i q
        cases e
        obtain ⟨vs, h1, h2⟩ := rp.all _ _ _ r q
        exact ⟨_, vs, rfl, h1, h2⟩
      · cases e
  · cases e
end
section
variable {X : Cx} {ct : Nat → Option Addr} {E : EX}
def gLstW (ws : List W) (S : Store) : O := if ws.length ≤ lim then some (mkL ws, S) else none
def gLiveW (ws : List W) (S : Store) : O := if ws.length ≤ lim ∧ locsBs S.length ws = true then some (.loc S.length, S ++ [.lw ws]) else none
theorem i_lstW {es : List Expr} {fa : FA} {pos} (h : PA X es (tA (gx X ct) E fa)) : PE X (.List es pos) (tF (gx X ct) E (fL gLstW fa)) := PEw (pe_lst h) (getL (r := fun xs H Q => xs.length ≤ sizeLine ∧ ∀ p, H p = none → Q (.ref p) (upd H p (.lst xs))) fun x H Q ⟨η, S, ws, rp, r, q⟩ => by
  unfold gLstW at q
  split at q
  · rename_i hl
    exact ⟨lim_ok (by rw [← r.length]; exact hl), new_mkL rp r q⟩
  · exact q.elim)
theorem i_liveW {es : List Expr} {fa : FA} {pos} (h : PA X es (tA (gx X ct) E fa)) : PE X (.List es pos) (tF (gx X ct) E (fL gLiveW fa)) := PEw (pe_lst h) (getL (r := fun xs H Q => xs.length ≤ sizeLine ∧ ∀ p, H p = none → Q (.ref p) (upd H p (.lst xs))) fun x H Q ⟨η, S, ws, rp, r, q⟩ => by
  unfold gLiveW at q
  split at q
  · rename_i hl
    exact ⟨lim_ok (by rw [← r.length]; exact hl.1), new_liveW rp r hl.2 q⟩
  · exact q.elim)
/-- list + list -/
def gCatW (a b : W) (S : Store) : O := match asX a S, asX b S with
  | some xs, some ys => if xs.length + ys.length ≤ lim then some (mkL (xs ++ ys), S) else none
  | _, _ => none
theorem sim_catW : OpR X (binaryOp .Add) (Sim2 X ct gCatW) := OpR.fit op_cat fun x y H Q ⟨η, S, wx, wy, rp, rx, ry, h⟩ => by
  unfold gCatW at h
  split at h
  · rename_i xs ys e1 e2
    obtain ⟨a, vs, rfl, h1, r1⟩ := asX_ok e1 rp rx
    obtain ⟨b, us, rfl, h2, r2⟩ := asX_ok e2 rp ry
    split at h
    · rename_i hz
      exact ⟨a, b, vs, us, rfl, rfl, h1, h2, lim_ok (by rw [← r1.length, ← r2.length]; exact hz), new_mkL rp (r1.append r2) h⟩
    · exact h.elim
  · exact h.elim
/-- xs.extend(ys), xs a live list of any values -/
def mExtW : GM := fun o ws S => match o, ws with
  | .loc l, [u] => match S[l]?, asX u S with
    | some (.lw xs), some ys => if xs.length + ys.length ≤ lim ∧ locsBs l (xs ++ ys) = true then some (.d .none, S.set l (.lw (xs ++ ys))) else none
    | _, _ => none
  | _, _ => none
theorem m_extW : MtR X "list.extend" (SimM X ct mExtW) := MtR.fit mt_extend fun x xs H Q ⟨η, S, wx, ws, rp, rx, rr, h⟩ => by
  unfold mExtW at h
  split at h
  · rename_i l u
    split at h
    · rename_i ds es q e
      cases rx with
      | loc rx =>
        obtain ⟨vs, h1, h2⟩ := rp.all _ _ _ rx q
        obtain ⟨y, rfl, ry⟩ := repWs1 rr
        obtain ⟨b, us, rfl, h3, h4⟩ := asX_ok e rp ry
        split at h
        · rename_i hl
          exact ⟨_, b, vs, us, rfl, rfl, h1, h3, by rw [← h2.length, ← h4.length, sizeLine_eq]; exact hl.1, write_lw rp rx (h2.append h4) hl.2 (.d .none) h⟩
        · exact h.elim
    · exact h.elim
  · exact h.elim
def liveWB (w : W) (S : Store) : Bool := match w with
  | .loc l => match S[l]? with
    | some (.lw _) => true
    | _ => false
  | _ => false
theorem liveWB_ok {K : PySem.W.Frag} {η : List Addr} {H : Hp} {S : Store} {w : W} {v : V} (e : liveWB w S = true) (rp : Rp K η H S) (r : RepW K η H w v) : tyV K "list" v H := by
  unfold liveWB at e
  split at e
  · split at e
    · rename_i l xs q
      cases r with
      | loc r =>
        obtain ⟨vs, h1, h2⟩ := rp.all _ _ _ r q
        exact .inl ⟨rfl, vs, SqL.of h1⟩
    · cases e
  · cases e
def fMethW (g : GM) (o : FE) (a : FA) : FE := fun ρ S => (o ρ S).bind fun ov S1 => if liveWB ov S1 = true then (a ρ S1).bind fun ws S2 => lift (g ov ws S2) else .bad
theorem i_methW {o e : Expr} {es : List Expr} {name : Str} {apos cpos : Pos} {id : String} {g : GM} {fo : FE} {fa : FA} (slot : Slot "list" name id) (hty : typeOf (.builtin id) = pure (.type "method_descriptor")) (hm : MtR X id (SimM X ct g)) (ho : PE X o (tF (gx X ct) E fo)) (ha : PA X (e :: es) (tA (gx X ct) E fa))
    (hbase : attributeBase o name X.env (eval o X.env) = eval o X.env := by rfl)
    (hfew : ((backTo cpos (starEach (e :: es) X.env)).all (fun x => !x.1) && (backToKw cpos (keywordEach [] X.env)).all (fun x => x.1.isSome)
      && decide ((e :: es).length + ([] : List Keyword).length + (if ([] : List Keyword).isEmpty then 0 else 1) < 30)) = true := by rfl)
    (hline : (apos.endLine == cpos.line) = true := by rfl) (hs : starEach (e :: es) X.env = (false, eval e X.env) :: starEach es X.env := by rfl) (hplain : (backTo cpos (starEach es X.env)).any (·.1) = false := by rfl) :
    PE X (.Call (.Attribute o name apos) (e :: es) [] cpos) (tF (gx X ct) E (fMethW g fo fa)) := PEw (pe_bm PySem.F.plainAttrs_list slot hty hm ho ha hbase hfew hline hs hplain) fun σ H Q ⟨η, ρ, S, rp, er, h⟩ =>
  ⟨η, ρ, S, rp, er, FinR.mono (FinR.bind (rel := relW (gx X ct)) h) fun v H1 ⟨η1, w, S1, f1, rp1, r1, h1⟩ => by
    by_cases q : liveWB w S1 = true
    · rw [if_pos q] at h1
      exact ⟨liveWB_ok q rp1 r1, η1, ρ, S1, rp1, er.fu f1, FinR.mono (FinR.bind (rel := relL (gx X ct)) h1) fun vs H2 ⟨η2, ws, S2, f2, rp2, r2, h2⟩ => ⟨η2, S2, w, ws, rp2, RepW.fu f2 _ _ r1, r2, lift_ok h2⟩⟩
    · rw [if_neg q] at h1
      exact h1.elim⟩
def gLenW (ws : List W) (S : Store) : O := match ws with
  | [.lw xs] => some (.d (.int xs.length), S)
  | ws => gLen ws S
theorem c_lenW : CallR X (.builtin "len") (SimL X ct gLenW) := by
  intro pins s σ H xs us Q I rv ⟨η, S, ws, rp, rr, q⟩
  unfold gLenW at q
  split at q
  · obtain ⟨v, rfl, r⟩ := repWs1 rr
    cases r with
    | lw h1 h2 h3 => exact call_len pins s σ H _ us Q I rv ⟨_, _, rfl, .inl ⟨_, SqL.of h1, rfl⟩, by rw [← h3.length]; exact same_val rp (.d (.int _)) q⟩
  · exact c_len pins s σ H xs us Q I rv ⟨η, S, _, rp, rr, q⟩
def gSlW (a : W) (lo hi : Option Int) (S : Store) : O := match a with
  | .lw ws => some (mkL (cutG ws lo hi), S)
  | a => gSl a lo hi S
theorem sl_W : SlR X (SimS X ct gSlW) := by
  intro pins s σ H x v vl vu lo hi sl Q I rx hs pl pu ⟨η, S, wx, rp, r1, q⟩
  unfold gSlW at q
  split at q
  · cases r1 with
    | lw h1 h2 h3 => exact sl_list pins s σ H _ v vl vu lo hi sl Q I rx hs pl pu ⟨_, _, rfl, SqL.of h1, new_mkL rp (cut_rep h3 lo hi) q⟩
  · exact sl_any pins s σ H x v vl vu lo hi sl Q I rx hs pl pu ⟨η, S, _, rp, r1, q⟩
theorem i_slW {e : Expr} {lo hi : Option Expr} {fe : FE} {fl fh : FO} {pos p2 : Pos} (he : PE X e (tF (gx X ct) E fe)) (hl : PO X lo (tO (gx X ct) E fl)) (hu : PO X hi (tO (gx X ct) E fh)) : PE X (.Subscript e (.Slice lo hi none p2) pos) (tF (gx X ct) E (fSl gSlW fe fl fh)) :=
  PEw (pe_slice sl_W he hl hu) fun σ H Q ⟨η, ρ, S, rp, er, h⟩ =>
    ⟨η, ρ, S, rp, er, FinR.mono (FinR.bind h) fun v H1 ⟨η1, w, S1, f, rp1, r1, h1⟩ =>
      ⟨η1, ρ, S1, rp1, er.fu f, FinR.mono (FinR.bind h1) fun lo' H2 ⟨η2, l, S2, f2, rp2, e2, h2⟩ =>
        ⟨η2, ρ, S2, rp2, (er.fu f).fu f2, FinR.mono (FinR.bind h2) fun hi' H3 ⟨η3, u, S3, f3, rp3, e3, h3⟩ => by
          subst e2
          subst e3
          exact ⟨η3, S3, w, rp3, RepW.fu f3 _ _ (RepW.fu f2 _ _ r1), lift_ok h3⟩⟩⟩⟩
end
end VI
set_option Elab.async false
set_option linter.all false
set_option maxRecDepth 100000
namespace VI
open PySem PySem.Spec PyProof.Rows L2

/-! own errors as values -/
theorem pe_ownF {X : Cx} {k : Nat} {x : Str} {C : Addr} {fs : List Str} {ta : TA} {e : Expr} {es : List Expr} {p pos : Pos} (O : OwnX X.prog X.w X.K X.mg X.base k x C fs) (hr : Room (k + 1) X.A) (hn : fs.length ≤ 1000) (ha : PA X (e :: es) ta) (hg : Gl X x) (hdb : (x == ("__debug__" : Str)) = false := by decide)
    (he : starEach (e :: es) X.env = (false, eval e X.env) :: starEach es X.env := by rfl) (hpl : (backTo pos (starEach es X.env)).any (·.1) = false := by rfl) :
    PE X (.Call (.Name x p) (e :: es) [] pos) (fun σ H Q => ta σ H fun vs H1 => vs.length = fs.length ∧ ∀ a dx, H1 a = none → H1 dx = none → dx ≠ a → Q (.ref a) (upd (upd H1 dx (exd dx (fs.zip vs).reverse)) a (exo a C (some dx)))) := by
  obtain ⟨m, T, fI, fd, ps, iC, tI, F1, hb⟩ := O
  refine ⟨fun pins s σ H Q I h => ?_⟩
  obtain ⟨nm, q, N, bs, bm, sn, sub, ab, col, dd, k0, k1, k2, k3, k5, hC, hbm⟩ := T.cls
  refine wpAny_Call_Name_kw (ld_glob I hg m ?_ hdb)
  refine PySem.W.callWith_K (h₀ := X.base) I.ok.mod.kin T.kC (thn (ha.run pos pins s σ H _ I h) fun us s1 ⟨vs, H1, I1, rel, hl1, h1⟩ => ⟨I1.kIn, ?_⟩) he hpl
  show wpAny _ _ (call (.ref C) us) _ _ _
  obtain ⟨hp, g, dr, tk, os⟩ := s1
  have hsz : hp.objs.size ≤ hp.objs.size + 1 := Nat.le_succ _
  have hn1 : H1 (hp.objs.size + 1) = none := I1.hok.fresh hsz
  have kk : ∀ b o, hp.get? b = some o → ((hp.push (PySem.W.kdv_tup us)).push (PySem.HandSPX.excO C hp.objs.size)).get? b = some o := fun b o e => Heap.get?_push_of_some _ (Heap.get?_push_of_some _ e)
  have hget : ((hp.push (PySem.W.kdv_tup us)).push (PySem.HandSPX.excO C hp.objs.size)).get? (hp.objs.size + 1) = some (PySem.HandSPX.excO C hp.objs.size) := by heap_get
  have I2 : Inv X pins σ (upd H1 (hp.objs.size + 1) (exo (hp.objs.size + 1) C none)) ⟨(hp.push (PySem.W.kdv_tup us)).push (PySem.HandSPX.excO C hp.objs.size), g, dr, tk, os⟩ :=
    I1.laid (t' := tk) (a := hp.objs.size + 1) (o := exo (hp.objs.size + 1) C none) (h' := (hp.push (PySem.W.kdv_tup us)).push (PySem.HandSPX.excO C hp.objs.size)) kk hsz (exo_ok hget)
  have r2 : Vals (V.ref (hp.objs.size + 1) :: vs) (Value.ref (hp.objs.size + 1) :: us) := .cons rfl rel
  let Q2 : VK := fun v H' => v = .non ∧ Q (.ref (hp.objs.size + 1)) H'
  have hq : spInit C fs (V.ref (hp.objs.size + 1) :: vs) (upd H1 (hp.objs.size + 1) (exo (hp.objs.size + 1) C none)) Q2 (fun _ _ _ => False) := by
    refine ⟨_, _, rfl, hl1, upd_same, fun dx hd nd => ⟨rfl, ?_⟩⟩
    rw [upd_ne nd] at hd
    have e2 : upd (upd (upd H1 (hp.objs.size + 1) (exo (hp.objs.size + 1) C none)) dx (exd dx (fs.zip vs).reverse)) (hp.objs.size + 1) (exo (hp.objs.size + 1) C (some dx)) = upd (upd H1 dx (exd dx (fs.zip vs).reverse)) (hp.objs.size + 1) (exo (hp.objs.size + 1) C (some dx)) := by
      funext b
      by_cases z1 : b = hp.objs.size + 1
      · subst z1; rw [upd_same, upd_same]
      · rw [upd_ne z1, upd_ne z1]
        by_cases z2 : b = dx
        · subst z2; rw [upd_same, upd_same]
        · rw [upd_ne z2, upd_ne z2, upd_ne z1]
    rw [e2]
    exact h1 _ dx hn1 hd nd
  have hl : ([Value.ref (hp.objs.size + 1)] ++ us).length = ps.length := by
    have e := F1.len _ _ _ _ hq
    have e3 := rel.length
    simp at e ⊢
    omega
  have bnd := hb _ (Value.ref (hp.objs.size + 1) :: us) I2.kIn (by simpa using hl)
  rw [List.append_nil] at bnd
  have hus : us.length ≤ sizeLine := by
    have e3 := rel.length
    rw [sizeLine_eq]
    omega
  refine wpAny_call (PySem.HandSPX.call_own F.excBase_ValueError (fun Y => PySem.HandSPX.refsVE_contains Y bm hbm) (I1.kIn _ _ hC) (PySem.W.looks_findIn I1.kIn iC) (fun self => PySem.W.bind_fn I1.kIn self tI) hus
    (codeAny_mono (F1.run _ X.stack _ _ ⟨Value.ref (hp.objs.size + 1) :: us, []⟩ (Value.ref (hp.objs.size + 1) :: us) _ _ (fun _ _ _ => False) (hr.make C us []) (I2.env0.make C us []) bnd r2 hq) fun r s' hq' => ?_))
  cases r with
  | error er => exact pass0 pins σ _ _ er s' I2 hq'
  | ok fl =>
    cases fl with
    | ret u2 =>
      obtain ⟨v, H2, I4, rv, ev, q2⟩ := I2.after hq'
      subst ev
      exact ⟨rv, .ref (hp.objs.size + 1), H2, I4, rfl, q2⟩
    | next => exact False.elim hq'
    | brk => exact False.elim hq'
    | cont => exact False.elim hq'
/-- the class x, its fields fs: it may be made and read -/
structure KErr (P : Program) (w : World) (K : PySem.W.Frag) (mg : Str → Option Value) (base : Heap) (x : Str) (fs : List Str) : Prop where
  own : OwnX P w K mg base 1 x (He.ga K x) fs
  xf : XfC K (He.ga K x)
  no : ∀ f ∈ fs, PySem.W.findIn K (.ref (He.ga K x)) f = some none
def KErr0 (P : Program) (w : World) (K : PySem.W.Frag) (mg : Str → Option Value) (base : Heap) (x : Str) : Prop := OwnN P w K mg base 1 x (He.ga K x)
def fEr (x : Str) (fs : List Str) (fa : FA) : FE := fun ρ S => (fa ρ S).bind fun ws S1 => if ws.length = fs.length then .ok (.er x fs ws) S1 else .bad
def fEr0 (x : Str) : FE := fun _ S => .ok (.er x [] []) S
section
variable {X : Cx} {ct : Nat → Option Addr} {E : EX} {x : Str} {fs : List Str} {e : Expr} {es : List Expr} {p pos : Pos} {fa : FA} {fe : FE}
theorem i_er (O : KErr X.prog X.w X.K X.mg X.base x fs) (hr : Room 2 X.A) (ha : PA X (e :: es) (tA (gx X ct) E fa)) (hn : fs.length ≤ 1000 := by decide) (hg : Gl X x := by rfl) (hdb : (x == ("__debug__" : Str)) = false := by decide)
    (he : starEach (e :: es) X.env = (false, eval e X.env) :: starEach es X.env := by rfl) (hpl : (backTo pos (starEach es X.env)).any (·.1) = false := by rfl) :
    PE X (.Call (.Name x p) (e :: es) [] pos) (tF (gx X ct) E (fEr x fs fa)) := PEw (pe_ownF O.own hr hn ha hg hdb he hpl) fun σ H Q ⟨η, ρ, S, rp, er, h⟩ =>
  ⟨η, ρ, S, rp, er, FinR.mono (FinR.bind (rel := relL (gx X ct)) h) fun vs H1 ⟨η1, ws, S1, f1, rp1, r1, h1⟩ => by
    by_cases hl : ws.length = fs.length
    · rw [if_pos hl] at h1
      refine ⟨by rw [← r1.length]; exact hl, fun a dx hka hkd ne => ?_⟩
      have e1 : upd H1 dx (exd dx (fs.zip vs).reverse) a = none := by rw [upd_ne (Ne.symm ne)]; exact hka
      have g1 := fu_new (η := η1) (o := exd dx (fs.zip vs).reverse) hkd
      have g2 := fu_new (η := η1) (o := exo a (He.ga X.K x) (some dx)) e1
      have q1 := rp1.new (o := exd dx (fs.zip vs).reverse) hkd
      have q2 := q1.new (o := exo a (He.ga X.K x) (some dx)) e1
      refine h1 η1 _ _ (g1.trans g2) q2 (.er upd_same ?_ (rp1.notin hka) (rp1.notin hkd) rfl (RepWs.fu (g1.trans g2) _ _ r1))
      rw [upd_ne ne, upd_same]
    · rw [if_neg hl] at h1
      exact h1.elim⟩
theorem i_er0 (O : KErr0 X.prog X.w X.K X.mg X.base x) (hr : Room 2 X.A) (hg : Gl X x := by rfl) (hdb : (x == ("__debug__" : Str)) = false := by decide) : PE X (.Call (.Name x p) [] [] pos) (tF (gx X ct) E (fEr0 x)) :=
  PEw (pe_own0 O hr hg hdb) fun σ H Q ⟨η, ρ, S, rp, er, h⟩ a ha => h η _ _ (fu_new ha) (rp.new ha) (.er0 upd_same (rp.notin ha) rfl)
/-- e.f -/
theorem pe_erf {te : TE} {f : Str} (he : PE X e te) (hb : attributeBase e f X.env (eval e X.env) = eval e X.env := by rfl) : PE X (.Attribute e f pos) (fun σ H Q => te σ H fun x H1 => ∃ a C dx us v, x = .ref a ∧ H1 a = some (exo a C (some dx)) ∧ H1 dx = some (exd dx us) ∧ XfC X.K C ∧ PySem.W.findIn X.K (.ref C) f = some none ∧ us.lookup f = some v ∧ Q v H1) := by
  refine ⟨fun pins s σ H Q I h => ?_⟩
  refine attr_of hb (thn (he.run pins s σ H _ I h) fun u s1 hh => ?_)
  obtain ⟨x, H1, I1, rx, a, C, dx, us, v, rfl, ha, hd, T, hno, l, q⟩ := hh
  obtain rfl : u = Value.ref a := rx
  obtain ⟨t1, hget⟩ := exo_at I1.hok ha
  obtain ⟨mA, hns, hr⟩ := exd_at I1.hok hd
  obtain ⟨od, ho, hl⟩ := lookIn_ns hns
  obtain ⟨u, hu, ru⟩ := RelO.some_of (v := v) (o := mA f) (by rw [← l]; exact hr f)
  have J : PySem.W.InstAt s1.heap a ⟨.ref C, some dx, .fields #[.ref t1, .none, .none, .none, .bool false, .none], #[]⟩ C (some od) := ⟨hget, rfl, rfl, ho⟩
  exact PySem.HandSPX.exc_get I1.kIn J T.ga T.gg T.exC (PySem.W.findObj_own T.hdC hno rfl (by rw [hl, hu])) (handed_of ru) ⟨v, H1, I1.tok _, ru, q⟩
def atF (f : Str) : List Str → List W → Option W
  | [a], [x] => if f = a then some x else none
  | [a, b], [x, y] => if f = b then some y else if f = a then some x else none
  | _, _ => none
def gErF (x : Str) (fs : List Str) (f : Str) (w : W) (S : Store) : O := match w with
  | .er nm ns ws => if nm = x ∧ ns = fs then (atF f ns ws).map fun u => (u, S) else none
  | _ => none
theorem atF_rep {K : PySem.W.Frag} {η : List Addr} {H : Hp} {f : Str} {ns : List Str} {ws : List W} {vs : List V} {u : W} (e : atF f ns ws = some u) (r : RepWs K η H ws vs) : ∃ v, (ns.zip vs).reverse.lookup f = some v ∧ RepW K η H u v := by
  unfold atF at e
  split at e
  · rename_i a x
    obtain ⟨v, rfl, rv⟩ := repWs1 r
    split at e
    · rename_i h
      subst h
      cases e
      exact ⟨v, by simp [List.lookup], rv⟩
    · cases e
  · rename_i a b x y
    obtain ⟨v, v', rfl, rv, rv'⟩ := repWs2 r
    split at e
    · rename_i h
      subst h
      cases e
      exact ⟨v', by simp [List.lookup], rv'⟩
    · rename_i h1
      split at e
      · rename_i h
        subst h
        cases e
        have h2 : (f == b) = false := by simpa using h1
        exact ⟨v, by simp [List.lookup, h2], rv⟩
      · cases e
  · cases e
theorem i_erf {f : Str} (O : KErr X.prog X.w X.K X.mg X.base x fs) (hf : f ∈ fs) (he : PE X e (tF (gx X ct) E fe)) (hb : attributeBase e f X.env (eval e X.env) = eval e X.env := by rfl) :
    PE X (.Attribute e f pos) (tF (gx X ct) E (f1 (gErF x fs f) fe)) := PEw (pe_erf he hb) (get1 (r := fun x H1 Q => ∃ a C dx us v, x = .ref a ∧ H1 a = some (exo a C (some dx)) ∧ H1 dx = some (exd dx us) ∧ XfC X.K C ∧ PySem.W.findIn X.K (.ref C) f = some none ∧ us.lookup f = some v ∧ Q v H1) fun v H Q ⟨η, S, wx, rp, rx, h⟩ => by
  unfold gErF at h
  split at h
  · rename_i nm ns ws
    split at h
    · rename_i hz
      obtain ⟨rfl, rfl⟩ := hz
      cases q : atF f ns ws with
      | none => rw [q] at h; exact h.elim
      | some u =>
        rw [q] at h
        cases rx with
        | er h1 h2 h3 h4 h5 h6 =>
          obtain ⟨v, l, rv⟩ := atF_rep q h6
          subst h5
          exact ⟨_, _, _, _, v, rfl, h1, h2, O.xf, O.no f hf, l, same_val rp rv h⟩
        | er0 _ _ _ => unfold atF at q; cases q
    · exact h.elim
  · exact h.elim)
/-! isinstance(e, C) -/
theorem call_isiE {T : V} {TV : Value} (hT : ∀ u, RelV T u → u = TV) : CallR X (.builtin "isinstance") (fun xs H Q => ∃ a C d b, xs = [.ref a, T] ∧ H a = some (exo a C d) ∧ (∀ dx, d = some dx → ∃ us, H dx = some (exd dx us)) ∧ L2.ExcC X.K C ∧ PySem.W.kitOne X.K (.ref C) TV = some b ∧ Q (.bl b) H) := by
  intro pins s σ H xs us Q I r h
  obtain ⟨a, C, d, b, rfl, ha, hd, C1, hk, q⟩ := h
  obtain ⟨u1, u2, rfl, r1, r2⟩ := vals2 r
  cases (show u1 = Value.ref a from r1)
  obtain rfl := hT u2 r2
  obtain ⟨t1, hget⟩ := exo_at I.hok ha
  cases d with
  | none => exact PySem.W.kia_one (PySem.W.handS_kitx_exc C1.hg C1.hk C1.hs C1.hd C1.ha C1.hn C1.ht C1.hm) I.kIn ⟨hget, rfl, rfl, trivial⟩ hk (fun z => nomatch z) fun tk => ⟨.bl b, H, I.kept (t' := tk) fun _ _ z => z, rfl, q⟩
  | some dx =>
    obtain ⟨us', hx⟩ := hd dx rfl
    obtain ⟨od, hod⟩ : ∃ o, s.heap.get? dx = some o := (I.hok dx _ hx).2.1
    exact PySem.W.kia_one (kitx_excD C1) I.kIn ⟨hget, rfl, rfl, hod⟩ hk (fun z => nomatch z) fun tk => ⟨.bl b, H, I.kept (t' := tk) fun _ _ z => z, rfl, q⟩
def gIsE (L : List (Str × Bool)) (w : W) (S : Store) : O := match w with
  | .er nm _ _ => (L.lookup nm).map fun b => (.d (.bool b), S)
  | _ => none
/-- what isinstance tells of own errors and the class y -/
def KIsE (K : PySem.W.Frag) (mg : Str → Option Value) (y : Str) (L : List (Str × Bool)) : Prop := mg y = some (.ref (He.ga K y)) ∧ ∀ p ∈ L, L2.ExcC K (He.ga K p.1) ∧ PySem.W.kitOne K (.ref (He.ga K p.1)) (.ref (He.ga K y)) = some p.2
/-- .. and a built-in class -/
def KIsB (K : PySem.W.Frag) (T : String) (L : List (Str × Bool)) : Prop := ∀ p ∈ L, L2.ExcC K (He.ga K p.1) ∧ PySem.W.kitOne K (.ref (He.ga K p.1)) (.type T) = some p.2
theorem mem_look {nm : Str} {b : Bool} : ∀ {L : List (Str × Bool)}, L.lookup nm = some b → (nm, b) ∈ L
  | [], h => by cases h
  | (a, c) :: L, h => by
    rw [List.lookup_cons] at h
    split at h
    · rename_i e
      cases h
      have : nm = a := by simpa using e
      subst this
      exact List.mem_cons_self
    · exact List.mem_cons_of_mem _ (mem_look h)
theorem isE_key {T : V} {TV : Value} {L : List (Str × Bool)} {η : List Addr} {H : Hp} {S : Store} {w : W} {v : V} {Q : VK} (k : ∀ p ∈ L, L2.ExcC X.K (He.ga X.K p.1) ∧ PySem.W.kitOne X.K (.ref (He.ga X.K p.1)) TV = some p.2) (rp : Rp X.K η H S) (r : RepW X.K η H w v) (h : FinO (gx X ct) η H (gIsE L w S) Q) :
    ∃ a C d b, [v, T] = [.ref a, T] ∧ H a = some (exo a C d) ∧ (∀ dx, d = some dx → ∃ us, H dx = some (exd dx us)) ∧ L2.ExcC X.K C ∧ PySem.W.kitOne X.K (.ref C) TV = some b ∧ Q (.bl b) H := by
  unfold gIsE at h
  split at h
  · rename_i nm ns ws
    cases q : L.lookup nm with
    | none => rw [q] at h; exact h.elim
    | some b =>
      rw [q] at h
      obtain ⟨k1, k2⟩ := k _ (mem_look q)
      cases r with
      | er h1 h2 h3 h4 h5 h6 =>
        subst h5
        exact ⟨_, _, _, b, rfl, h1, fun dx e => by cases e; exact ⟨_, h2⟩, k1, k2, same_val rp (.d (.bool _)) h⟩
      | er0 h1 h2 h5 =>
        subst h5
        exact ⟨_, _, _, b, rfl, h1, (fun dx e => nomatch e), k1, k2, same_val rp (.d (.bool _)) h⟩
  · exact h.elim
theorem i_isE {y : Str} {L : List (Str × Bool)} {p2 : Pos} (k : KIsE X.K X.mg y L) (hg : Gl X "isinstance") (hm : X.mg "isinstance" = none) (hx : Gl X y) (he : PE X e (tF (gx X ct) E fe)) (hd : (y == ("__debug__" : Str)) = false := by decide)
    (hs : starEach [e, .Name y p2] X.env = (false, eval e X.env) :: starEach [.Name y p2] X.env := by rfl) (hs2 : starEach [.Name y p2] X.env = (false, eval (.Name y p2) X.env) :: starEach [] X.env := by rfl) (hpl : (backTo pos (starEach [.Name y p2] X.env)).any (·.1) = false := by rfl)
    (hb : bootBuiltins "isinstance" = some (.builtin "isinstance") := by decide +kernel) : PE X (.Call (.Name "isinstance" p) [e, .Name y p2] [] pos) (tF (gx X ct) E (f1 (gIsE L) fe)) :=
  PEw (pe_callB (call_isiE (T := .ref (He.ga X.K y)) (TV := .ref (He.ga X.K y)) fun u r => r) hg hm hb (pa_cons he (pa_cons (pe_glob (v := .ref (He.ga X.K y)) hx k.1 rfl hd) pa_nil hs2) hs) (by decide) (by decide) hs hpl) fun σ H Q ⟨η, ρ, S, rp, er, h⟩ =>
    ⟨η, ρ, S, rp, er, FinR.mono (FinR.bind (rel := relW (gx X ct)) h) fun v H1 ⟨η1, w, S1, f1, rp1, r1, h1⟩ => isE_key k.2 rp1 r1 (lift_ok h1)⟩
theorem i_isB {T : String} {y : Str} {L : List (Str × Bool)} {p2 : Pos} (k : KIsB X.K T L) (hg : Gl X "isinstance") (hm : X.mg "isinstance" = none) (hx : Gl X y) (hmx : X.mg y = none) (hv : bootBuiltins y = some (.type T)) (he : PE X e (tF (gx X ct) E fe)) (hn : y ≠ "__name__" := by decide) (hd : (y == ("__debug__" : Str)) = false := by decide)
    (hs : starEach [e, .Name y p2] X.env = (false, eval e X.env) :: starEach [.Name y p2] X.env := by rfl) (hs2 : starEach [.Name y p2] X.env = (false, eval (.Name y p2) X.env) :: starEach [] X.env := by rfl) (hpl : (backTo pos (starEach [.Name y p2] X.env)).any (·.1) = false := by rfl)
    (hb : bootBuiltins "isinstance" = some (.builtin "isinstance") := by decide +kernel) : PE X (.Call (.Name "isinstance" p) [e, .Name y p2] [] pos) (tF (gx X ct) E (f1 (gIsE L) fe)) :=
  PEw (pe_callB (call_isiE (T := .ty T) (TV := .type T) fun u r => r) hg hm hb (pa_cons he (pa_cons (pe_bltn (v := .ty T) hx hmx hv rfl hn hd) pa_nil hs2) hs) (by decide) (by decide) hs hpl) fun σ H Q ⟨η, ρ, S, rp, er, h⟩ =>
    ⟨η, ρ, S, rp, er, FinR.mono (FinR.bind (rel := relW (gx X ct)) h) fun v H1 ⟨η1, w, S1, f1, rp1, r1, h1⟩ => isE_key k rp1 r1 (lift_ok h1)⟩
end
/-! from the head -/
def excB (K : PySem.W.Frag) (C : Addr) : Bool :=
  decide (PySem.W.findIn K (.ref C) "__getattribute__" = some (some (.builtin "BaseException.__getattribute__"))) && (decide (PySem.W.findIn K (.ref C) "__getattr__" = some none) && (decide (PySem.W.subIn K (.ref C) (.type "BaseException") = some true) && (PySem.W.hasDictIn K C &&
  (decide (PySem.W.findIn K (.ref C) "__class__" = some (some (.builtin "object.__class__"))) && (decide (PySem.W.specialIn K (.builtin "object.__class__") "__get__" = some (some (.builtin "getset_descriptor.__get__"))) && (decide (PySem.W.takesIn K (.builtin "object.__class__") = some true) && decide (PySem.W.mroIn K C (.type "object") = some true)))))))
theorem excB_ok {K : PySem.W.Frag} {C : Addr} (h : excB K C = true) : L2.ExcC K C := by
  obtain ⟨h1, h⟩ := He.ba h
  obtain ⟨h2, h⟩ := He.ba h
  obtain ⟨h3, h⟩ := He.ba h
  obtain ⟨h4, h⟩ := He.ba h
  obtain ⟨h5, h⟩ := He.ba h
  obtain ⟨h6, h⟩ := He.ba h
  obtain ⟨h7, h⟩ := He.ba h
  exact ⟨of_decide_eq_true h1, of_decide_eq_true h2, of_decide_eq_true h3, h4, of_decide_eq_true h5, of_decide_eq_true h6, of_decide_eq_true h7, of_decide_eq_true h⟩
/-- all these are own errors -/
def excAB (K : PySem.W.Frag) (ns : List Str) : Bool := ns.all fun x => excB K (He.ga K x)
def isEB (K : PySem.W.Frag) (y : Str) (L : List (Str × Bool)) : Bool := L.all fun p => decide (PySem.W.kitOne K (.ref (He.ga K p.1)) (.ref (He.ga K y)) = some p.2)
def isBB (K : PySem.W.Frag) (T : String) (L : List (Str × Bool)) : Bool := L.all fun p => decide (PySem.W.kitOne K (.ref (He.ga K p.1)) (.type T) = some p.2)
theorem excAB_ok {K : PySem.W.Frag} {ns : List Str} {L : List (Str × Bool)} (b : excAB K ns = true) (e : L.map (·.1) = ns) : ∀ p ∈ L, L2.ExcC K (He.ga K p.1) := fun p m =>
  excB_ok (List.all_eq_true.mp b p.1 (by rw [← e]; exact List.mem_map_of_mem m))
theorem isEB_ok {K : PySem.W.Frag} {h : Heap} {mg : Str → Option Value} {y : Str} {ns : List Str} {L : List (Str × Bool)} (X : K.In h) (G : h.Ns mainGlobals mg) (x : excAB K ns = true) (c : (He.Fa.glo y).ok K = true) (b : isEB K y L = true) (e : L.map (·.1) = ns := by rfl) : KIsE K mg y L :=
  ⟨He.glo_ok X G c, fun p m => ⟨excAB_ok x e p m, of_decide_eq_true (List.all_eq_true.mp b p m)⟩⟩
theorem isBB_ok {K : PySem.W.Frag} {T : String} {ns : List Str} {L : List (Str × Bool)} (x : excAB K ns = true) (b : isBB K T L = true) (e : L.map (·.1) = ns := by rfl) : KIsB K T L := fun p m =>
  ⟨excAB_ok x e p m, of_decide_eq_true (List.all_eq_true.mp b p m)⟩
section
variable {K : PySem.W.Frag} {h : Heap} {mg : Str → Option Value} {P : Program} {w : World} {base : Heap}
theorem kErr_of {x : Str} {fs : List Str} (O : OwnX P w K mg base 1 x (He.ga K x) fs) (b : L2.xfB K (He.ga K x) = true) (n : ∀ f ∈ fs, (He.Fa.noat x f).ok K = true) : KErr P w K mg base x fs := ⟨O, xfB_ok b, fun f m => He.noat_ok (n f m)⟩
theorem kErr0_of {x qual : Str} {pr : Arguments} {body : List Stmt} {sc : Scope} (X : K.In h) (G : h.Ns mainGlobals mg) (c : (He.Fa.glo x).ok K = true) (T : oexB K (He.ga K x) = true) (ot : otB K (He.ga K x) = true) (m : (He.Fa.meth x "__init__").ok K = true) (ty : decide (PySem.W.typeIn K (.ref (He.ma K (He.ga K x) "__init__")) = some (.type "function")) = true)
    (F : ∃ fd, FunD K "__init__" qual pr body sc [] [] (He.ma K (He.ga K x) "__init__") fd) (hS : FnScope ["self"] ["self"] sc)
    (hB : ∀ (kV doc pm : Value) (an : Option Addr) (cdv ct : Value) (us : List Value), us.length = 1 → bindArgs (PySem.W.fnOf "__init__" qual pr body sc .none kV doc pm an cdv ct) ⟨us, []⟩ = pure ((["self"] : List Str).zip us))
    (hb : ∀ (cdv : Value) (A : Around) (outer : List Env) (s : Shared) (H : Hp) (E : XK), PSs (cxOf CX0 P w K mg base ["self"] qual sc (He.ma K (He.ga K x) "__init__") cdv A outer s H E) body (fun D σ H => D.nx σ H)) : KErr0 P w K mg base x := by
  obtain ⟨fd, F⟩ := F
  exact ⟨He.glo_ok X G c, oexB_ok T, ⟨_, fd, _, (He.meth_ok m).at_, of_decide_eq_true ty, init_no (k := 0) F hS hb, F.bindsN hB⟩, otB_ok ot⟩
end
end VI
set_option Elab.async false
set_option linter.all false
set_option maxRecDepth 100000
namespace VI
open PySem PySem.Spec PyProof.Rows L2
/-- the looked-at part of the heap, sys.modules with it -/
def asS (_ : Addr → Option Obj) (n : Nat) : List Addr := List.range n
def hookV1 (n : Nat) (fa : List He.Fa) (fn : List He.DefD) (ex : PySem.W.Frag → Bool) : PySem.W.Hook where
  α := He.AlD × Bool
  obs := fun s => (He.obsD fa fn (He.frG s.heap.get? (asS s.heap.get? n)), ex (He.frG s.heap.get? (asS s.heap.get? n)))
  val := fun _ => (He.valD fn, true)
  says := fun _ h => ∃ K : PySem.W.Frag, K.In h ∧ He.SaysD fa fn K ∧ ex K = true
  of := fun _ _ e => ⟨_, He.frG_in, congrArg (fun z : He.AlD × Bool => z.1) e, congrArg (fun z : He.AlD × Bool => z.2) e⟩
  keeps := fun _ _ _ ⟨K, hK, c⟩ k => ⟨K, PySem.W.Frag.In.keeps hK k, c⟩
def obsV1 (n : Nat) (fa : List He.Fa) (fn : List He.DefD) (ex : PySem.W.Frag → Bool) (g : Addr → Option Obj) : He.AlD × Bool := (He.obsD fa fn (He.frG g (asS g n)), ex (He.frG g (asS g n)))
theorem obsV1_eq {n : Nat} {fa : List He.Fa} {fn : List He.DefD} {ex : PySem.W.Frag → Bool} {g : Addr → Option Obj} {s : Shared} (h : ∀ a, g a = s.heap.get? a) : obsV1 n fa fn ex g = (hookV1 n fa fn ex).obs s := by
  have e : g = s.heap.get? := funext h
  rw [e] <;> rfl
theorem map_three {α β γ δ : Type} {X : Option α} {f : α → β} {g : α → γ} {h : α → δ} {x : β} {y : γ} {z : δ} (a : X.map (fun s => (f s, g s)) = some (x, y)) (b : X.map h = some z) : X.map (fun s => (f s, g s, h s)) = some (x, y, z) := by
  cases X with
  | none => cases a
  | some s =>
    have a' : (f s, g s) = (x, y) := Option.some.inj a
    have b' : h s = z := Option.some.inj b
    have a1 : f s = x := congrArg Prod.fst a'
    have a2 : g s = y := congrArg Prod.snd a'
    show some (f s, g s, h s) = _
    rw [a1, a2, b']
end VI
set_option Elab.async false
set_option linter.all false
set_option maxRecDepth 100000
namespace VI
open PySem PySem.Spec PyProof.Rows L2
/-! the text -/
def topS (i : Nat) : Stmt := PySem.Challenge.pw_kindsworn_k00_errors_numbers_and_names.main.body.getD i (.Pass ⟨0, 0, 0, 0⟩)
def clsT (i j : Nat) : Stmt := match topS i with
  | .ClassDef _ _ _ b _ _ _ _ _ _ _ => b.getD j (.Pass ⟨0, 0, 0, 0⟩)
  | s => s
/-- is_integer -/
abbrev st0 : Stmt := topS 9
abbrev N0 : List Str := ["thing"]
abbrev P0 : List Str := ["thing"]
theorem sc0 : FnScope N0 P0 (defScope st0) := ⟨rfl, rfl, rfl, by decide +kernel, rfl, by decide +kernel, by decide +kernel⟩
/-- is_number -/
abbrev st1 : Stmt := topS 10
abbrev N1 : List Str := ["thing"]
abbrev P1 : List Str := ["thing"]
theorem sc1 : FnScope N1 P1 (defScope st1) := ⟨rfl, rfl, rfl, by decide +kernel, rfl, by decide +kernel, by decide +kernel⟩
/-- begins_name -/
abbrev st2 : Stmt := topS 11
abbrev N2 : List Str := ["thing", "letters", "sign"]
abbrev P2 : List Str := ["thing", "letters"]
theorem sc2 : FnScope N2 P2 (defScope st2) := ⟨rfl, rfl, rfl, by decide +kernel, rfl, by decide +kernel, by decide +kernel⟩
/-- is_small -/
abbrev st3 : Stmt := topS 12
abbrev N3 : List Str := ["thing"]
abbrev P3 : List Str := ["thing"]
theorem sc3 : FnScope N3 P3 (defScope st3) := ⟨rfl, rfl, rfl, by decide +kernel, rfl, by decide +kernel, by decide +kernel⟩
/-- is_great -/
abbrev st4 : Stmt := topS 13
abbrev N4 : List Str := ["thing"]
abbrev P4 : List Str := ["thing"]
theorem sc4 : FnScope N4 P4 (defScope st4) := ⟨rfl, rfl, rfl, by decide +kernel, rfl, by decide +kernel, by decide +kernel⟩
/-- is_name -/
abbrev st5 : Stmt := topS 14
abbrev N5 : List Str := ["thing", "sides"]
abbrev P5 : List Str := ["thing"]
theorem sc5 : FnScope N5 P5 (defScope st5) := ⟨rfl, rfl, rfl, by decide +kernel, rfl, by decide +kernel, by decide +kernel⟩
/-- is_label -/
abbrev st6 : Stmt := topS 15
abbrev N6 : List Str := ["thing"]
abbrev P6 : List Str := ["thing"]
theorem sc6 : FnScope N6 P6 (defScope st6) := ⟨rfl, rfl, rfl, by decide +kernel, rfl, by decide +kernel, by decide +kernel⟩
/-- is_maker -/
abbrev st7 : Stmt := topS 16
abbrev N7 : List Str := ["thing", "sides", "side"]
abbrev P7 : List Str := ["thing"]
theorem sc7 : FnScope N7 P7 (defScope st7) := ⟨rfl, rfl, rfl, by decide +kernel, rfl, by decide +kernel, by decide +kernel⟩
/-- wrapped -/
abbrev st8 : Stmt := topS 17
abbrev N8 : List Str := ["number"]
abbrev P8 : List Str := ["number"]
theorem sc8 : FnScope N8 P8 (defScope st8) := ⟨rfl, rfl, rfl, by decide +kernel, rfl, by decide +kernel, by decide +kernel⟩
/-- _law_bag -/
abbrev st9 : Stmt := topS 41
abbrev N9 : List Str := ["script", "cell"]
abbrev P9 : List Str := ["script"]
theorem sc9 : FnScope N9 P9 (defScope st9) := ⟨rfl, rfl, rfl, by decide +kernel, rfl, by decide +kernel, by decide +kernel⟩
/-- _law_take -/
abbrev st10 : Stmt := topS 42
abbrev N10 : List Str := ["bag", "many", "cell", "stirred", "value", "begin", "second"]
abbrev P10 : List Str := ["bag", "many"]
theorem sc10 : FnScope N10 P10 (defScope st10) := ⟨rfl, rfl, rfl, by decide +kernel, rfl, by decide +kernel, by decide +kernel⟩
/-- _law_some -/
abbrev st11 : Stmt := topS 43
abbrev N11 : List Str := ["bag", "things"]
abbrev P11 : List Str := ["bag", "things"]
theorem sc11 : FnScope N11 P11 (defScope st11) := ⟨rfl, rfl, rfl, by decide +kernel, rfl, by decide +kernel, by decide +kernel⟩
/-- _law_alike -/
abbrev st12 : Stmt := topS 44
abbrev N12 : List Str := ["found", "due"]
abbrev P12 : List Str := ["found", "due"]
theorem sc12 : FnScope N12 P12 (defScope st12) := ⟨rfl, rfl, rfl, by decide +kernel, rfl, by decide +kernel, by decide +kernel⟩
/-- _law_is_int -/
abbrev st13 : Stmt := topS 45
abbrev N13 : List Str := ["thing"]
abbrev P13 : List Str := ["thing"]
theorem sc13 : FnScope N13 P13 (defScope st13) := ⟨rfl, rfl, rfl, by decide +kernel, rfl, by decide +kernel, by decide +kernel⟩
/-- _law_wrapped -/
abbrev st14 : Stmt := topS 46
abbrev N14 : List Str := ["number"]
abbrev P14 : List Str := ["number"]
theorem sc14 : FnScope N14 P14 (defScope st14) := ⟨rfl, rfl, rfl, by decide +kernel, rfl, by decide +kernel, by decide +kernel⟩
/-- _law_barred -/
abbrev st15 : Stmt := topS 47
abbrev N15 : List Str := ["found"]
abbrev P15 : List Str := []
theorem sc15 : FnScope N15 P15 (defScope st15) := ⟨rfl, rfl, rfl, by decide +kernel, rfl, by decide +kernel, by decide +kernel⟩
/-- _law_small_signs -/
abbrev st16 : Stmt := topS 48
abbrev N16 : List Str := []
abbrev P16 : List Str := []
theorem sc16 : FnScope N16 P16 (defScope st16) := ⟨rfl, rfl, rfl, by decide +kernel, rfl, by decide +kernel, by decide +kernel⟩
/-- _law_great_signs -/
abbrev st17 : Stmt := topS 49
abbrev N17 : List Str := []
abbrev P17 : List Str := []
theorem sc17 : FnScope N17 P17 (defScope st17) := ⟨rfl, rfl, rfl, by decide +kernel, rfl, by decide +kernel, by decide +kernel⟩
/-- _law_figures -/
abbrev st18 : Stmt := topS 50
abbrev N18 : List Str := []
abbrev P18 : List Str := []
theorem sc18 : FnScope N18 P18 (defScope st18) := ⟨rfl, rfl, rfl, by decide +kernel, rfl, by decide +kernel, by decide +kernel⟩
/-- _law_is_spelt -/
abbrev st19 : Stmt := topS 51
abbrev N19 : List Str := ["thing", "first", "every", "sign"]
abbrev P19 : List Str := ["thing", "first"]
theorem sc19 : FnScope N19 P19 (defScope st19) := ⟨rfl, rfl, rfl, by decide +kernel, rfl, by decide +kernel, by decide +kernel⟩
/-- _law_is_small -/
abbrev st20 : Stmt := topS 52
abbrev N20 : List Str := ["thing"]
abbrev P20 : List Str := ["thing"]
theorem sc20 : FnScope N20 P20 (defScope st20) := ⟨rfl, rfl, rfl, by decide +kernel, rfl, by decide +kernel, by decide +kernel⟩
/-- _law_is_great -/
abbrev st21 : Stmt := topS 53
abbrev N21 : List Str := ["thing"]
abbrev P21 : List Str := ["thing"]
theorem sc21 : FnScope N21 P21 (defScope st21) := ⟨rfl, rfl, rfl, by decide +kernel, rfl, by decide +kernel, by decide +kernel⟩
/-- _law_sides -/
abbrev st22 : Stmt := topS 54
abbrev N22 : List Str := ["thing"]
abbrev P22 : List Str := ["thing"]
theorem sc22 : FnScope N22 P22 (defScope st22) := ⟨rfl, rfl, rfl, by decide +kernel, rfl, by decide +kernel, by decide +kernel⟩
/-- _law_is_name -/
abbrev st23 : Stmt := topS 55
abbrev N23 : List Str := ["thing", "sides"]
abbrev P23 : List Str := ["thing"]
theorem sc23 : FnScope N23 P23 (defScope st23) := ⟨rfl, rfl, rfl, by decide +kernel, rfl, by decide +kernel, by decide +kernel⟩
/-- _law_is_maker -/
abbrev st24 : Stmt := topS 56
abbrev N24 : List Str := ["thing", "sides", "side"]
abbrev P24 : List Str := ["thing"]
theorem sc24 : FnScope N24 P24 (defScope st24) := ⟨rfl, rfl, rfl, by decide +kernel, rfl, by decide +kernel, by decide +kernel⟩
/-- _law_is_number -/
abbrev st25 : Stmt := topS 57
abbrev N25 : List Str := ["thing"]
abbrev P25 : List Str := ["thing"]
theorem sc25 : FnScope N25 P25 (defScope st25) := ⟨rfl, rfl, rfl, by decide +kernel, rfl, by decide +kernel, by decide +kernel⟩
/-- _law_odd -/
abbrev st26 : Stmt := topS 58
abbrev N26 : List Str := ["bag", "some"]
abbrev P26 : List Str := ["bag"]
theorem sc26 : FnScope N26 P26 (defScope st26) := ⟨rfl, rfl, rfl, by decide +kernel, rfl, by decide +kernel, by decide +kernel⟩
/-- _law_classes_of -/
abbrev st27 : Stmt := topS 59
abbrev N27 : List Str := ["error", "told", "k"]
abbrev P27 : List Str := ["error"]
theorem sc27 : FnScope N27 P27 (defScope st27) := ⟨rfl, rfl, rfl, by decide +kernel, rfl, by decide +kernel, by decide +kernel⟩
/-- _law_error_rows -/
abbrev st28 : Stmt := topS 60
abbrev N28 : List Str := ["one", "two", "broken", "hidden", "index", "module", "name", "text", "values", "fit", "typed", "whole", "great", "many", "twice", "ring", "wrong", "rows"]
abbrev P28 : List Str := ["one", "two"]
theorem sc28 : FnScope N28 P28 (defScope st28) := ⟨rfl, rfl, rfl, by decide +kernel, rfl, by decide +kernel, by decide +kernel⟩
/-- _law_are_errors_right -/
abbrev st29 : Stmt := topS 61
abbrev N29 : List Str := ["one", "two", "k", "error", "fields"]
abbrev P29 : List Str := ["one", "two"]
theorem sc29 : FnScope N29 P29 (defScope st29) := ⟨rfl, rfl, rfl, by decide +kernel, rfl, by decide +kernel, by decide +kernel⟩
/-- _law_near_name -/
abbrev st30 : Stmt := topS 62
abbrev N30 : List Str := ["bag", "one", "two", "some"]
abbrev P30 : List Str := ["bag"]
theorem sc30 : FnScope N30 P30 (defScope st30) := ⟨rfl, rfl, rfl, by decide +kernel, rfl, by decide +kernel, by decide +kernel⟩
/-- _law_is_named -/
abbrev st31 : Stmt := topS 63
abbrev N31 : List Str := ["thing", "told", "due", "more"]
abbrev P31 : List Str := ["thing"]
theorem sc31 : FnScope N31 P31 (defScope st31) := ⟨rfl, rfl, rfl, by decide +kernel, rfl, by decide +kernel, by decide +kernel⟩
/-- law -/
abbrev st32 : Stmt := topS 64
abbrev N32 : List Str := ["script", "bag", "value", "grown", "rows", "error", "fields", "turn", "number", "word", "words", "thing"]
abbrev P32 : List Str := ["script"]
theorem sc32 : FnScope N32 P32 (defScope st32) := ⟨rfl, rfl, rfl, by decide +kernel, rfl, by decide +kernel, by decide +kernel⟩
def k_SMALL_LETTERS : PyData := (.str "abcdefghijklmnopqrstuvwxyz")
def k_GREAT_LETTERS : PyData := (.str "ABCDEFGHIJKLMNOPQRSTUVWXYZ")
def k_NAME_SIGNS : PyData := (.str "abcdefghijklmnopqrstuvwxyzABCDEFGHIJKLMNOPQRSTUVWXYZ0123456789_")
def k_BARRED : PyData := (.tuple [(.str "module"), (.str "use"), (.str "give"), (.str "kind"), (.str "let"), (.str "rec"), (.str "and"), (.str "in"), (.str "fn"), (.str "if"), (.str "then"), (.str "else"), (.str "match"), (.str "with"), (.str "end"), (.str "new"), (.str "get"), (.str "put"), (.str "tell"), (.str "true"), (.str "false")])
def k_LONGEST_NAME : PyData := (.int 20)
def k_LEAST_NUMBER : PyData := (.int (-2147483648))
def k_GREATEST_NUMBER : PyData := (.int 2147483647)
def k_ALL_NUMBERS : PyData := (.int 4294967296)
/-- a is b or under it -/
def subC (a b : Nat) : Bool := [(0, 0), (1, 1), (1, 0), (2, 2), (2, 0), (3, 3), (3, 0), (4, 4), (4, 0), (5, 5), (5, 0), (6, 6), (6, 0), (7, 7), (7, 0), (8, 8), (8, 0), (9, 9), (9, 0), (10, 10), (10, 0), (11, 11), (11, 0), (12, 12), (12, 0), (13, 13), (13, 0), (14, 14), (14, 0), (15, 15), (15, 0), (16, 16), (16, 0), (17, 17), (17, 0), (18, 18), (18, 0), (19, 19), (19, 0), (20, 20), (20, 0)].any fun p => p.1 == a && p.2 == b
def L_Broken : List (Str × Bool) := [("Broken", true), ("Hidden", false), ("NoIndex", false), ("NoModule", false), ("NoName", false), ("NoText", false), ("NoValues", false), ("NotFit", false), ("NotKind", false), ("NotProgram", false), ("NotTyped", false), ("NotWhole", false), ("Nothing", false), ("Stuck", false), ("TooGreat", false), ("TooMany", false), ("Twice", false), ("Untaken", false), ("UseRing", false), ("Wrong", false)]
def L_Hidden : List (Str × Bool) := [("Broken", false), ("Hidden", true), ("NoIndex", false), ("NoModule", false), ("NoName", false), ("NoText", false), ("NoValues", false), ("NotFit", false), ("NotKind", false), ("NotProgram", false), ("NotTyped", false), ("NotWhole", false), ("Nothing", false), ("Stuck", false), ("TooGreat", false), ("TooMany", false), ("Twice", false), ("Untaken", false), ("UseRing", false), ("Wrong", false)]
def L_NoIndex : List (Str × Bool) := [("Broken", false), ("Hidden", false), ("NoIndex", true), ("NoModule", false), ("NoName", false), ("NoText", false), ("NoValues", false), ("NotFit", false), ("NotKind", false), ("NotProgram", false), ("NotTyped", false), ("NotWhole", false), ("Nothing", false), ("Stuck", false), ("TooGreat", false), ("TooMany", false), ("Twice", false), ("Untaken", false), ("UseRing", false), ("Wrong", false)]
def L_NoModule : List (Str × Bool) := [("Broken", false), ("Hidden", false), ("NoIndex", false), ("NoModule", true), ("NoName", false), ("NoText", false), ("NoValues", false), ("NotFit", false), ("NotKind", false), ("NotProgram", false), ("NotTyped", false), ("NotWhole", false), ("Nothing", false), ("Stuck", false), ("TooGreat", false), ("TooMany", false), ("Twice", false), ("Untaken", false), ("UseRing", false), ("Wrong", false)]
def L_NoName : List (Str × Bool) := [("Broken", false), ("Hidden", false), ("NoIndex", false), ("NoModule", false), ("NoName", true), ("NoText", false), ("NoValues", false), ("NotFit", false), ("NotKind", false), ("NotProgram", false), ("NotTyped", false), ("NotWhole", false), ("Nothing", false), ("Stuck", false), ("TooGreat", false), ("TooMany", false), ("Twice", false), ("Untaken", false), ("UseRing", false), ("Wrong", false)]
def L_NoText : List (Str × Bool) := [("Broken", false), ("Hidden", false), ("NoIndex", false), ("NoModule", false), ("NoName", false), ("NoText", true), ("NoValues", false), ("NotFit", false), ("NotKind", false), ("NotProgram", false), ("NotTyped", false), ("NotWhole", false), ("Nothing", false), ("Stuck", false), ("TooGreat", false), ("TooMany", false), ("Twice", false), ("Untaken", false), ("UseRing", false), ("Wrong", false)]
def L_NoValues : List (Str × Bool) := [("Broken", false), ("Hidden", false), ("NoIndex", false), ("NoModule", false), ("NoName", false), ("NoText", false), ("NoValues", true), ("NotFit", false), ("NotKind", false), ("NotProgram", false), ("NotTyped", false), ("NotWhole", false), ("Nothing", false), ("Stuck", false), ("TooGreat", false), ("TooMany", false), ("Twice", false), ("Untaken", false), ("UseRing", false), ("Wrong", false)]
def L_NotFit : List (Str × Bool) := [("Broken", false), ("Hidden", false), ("NoIndex", false), ("NoModule", false), ("NoName", false), ("NoText", false), ("NoValues", false), ("NotFit", true), ("NotKind", false), ("NotProgram", false), ("NotTyped", false), ("NotWhole", false), ("Nothing", false), ("Stuck", false), ("TooGreat", false), ("TooMany", false), ("Twice", false), ("Untaken", false), ("UseRing", false), ("Wrong", false)]
def L_NotKind : List (Str × Bool) := [("Broken", false), ("Hidden", false), ("NoIndex", false), ("NoModule", false), ("NoName", false), ("NoText", false), ("NoValues", false), ("NotFit", false), ("NotKind", true), ("NotProgram", false), ("NotTyped", false), ("NotWhole", false), ("Nothing", false), ("Stuck", false), ("TooGreat", false), ("TooMany", false), ("Twice", false), ("Untaken", false), ("UseRing", false), ("Wrong", false)]
def L_NotProgram : List (Str × Bool) := [("Broken", false), ("Hidden", false), ("NoIndex", false), ("NoModule", false), ("NoName", false), ("NoText", false), ("NoValues", false), ("NotFit", false), ("NotKind", false), ("NotProgram", true), ("NotTyped", false), ("NotWhole", false), ("Nothing", false), ("Stuck", false), ("TooGreat", false), ("TooMany", false), ("Twice", false), ("Untaken", false), ("UseRing", false), ("Wrong", false)]
def L_NotTyped : List (Str × Bool) := [("Broken", false), ("Hidden", false), ("NoIndex", false), ("NoModule", false), ("NoName", false), ("NoText", false), ("NoValues", false), ("NotFit", false), ("NotKind", false), ("NotProgram", false), ("NotTyped", true), ("NotWhole", false), ("Nothing", false), ("Stuck", false), ("TooGreat", false), ("TooMany", false), ("Twice", false), ("Untaken", false), ("UseRing", false), ("Wrong", false)]
def L_NotWhole : List (Str × Bool) := [("Broken", false), ("Hidden", false), ("NoIndex", false), ("NoModule", false), ("NoName", false), ("NoText", false), ("NoValues", false), ("NotFit", false), ("NotKind", false), ("NotProgram", false), ("NotTyped", false), ("NotWhole", true), ("Nothing", false), ("Stuck", false), ("TooGreat", false), ("TooMany", false), ("Twice", false), ("Untaken", false), ("UseRing", false), ("Wrong", false)]
def L_Nothing : List (Str × Bool) := [("Broken", false), ("Hidden", false), ("NoIndex", false), ("NoModule", false), ("NoName", false), ("NoText", false), ("NoValues", false), ("NotFit", false), ("NotKind", false), ("NotProgram", false), ("NotTyped", false), ("NotWhole", false), ("Nothing", true), ("Stuck", false), ("TooGreat", false), ("TooMany", false), ("Twice", false), ("Untaken", false), ("UseRing", false), ("Wrong", false)]
def L_Stuck : List (Str × Bool) := [("Broken", false), ("Hidden", false), ("NoIndex", false), ("NoModule", false), ("NoName", false), ("NoText", false), ("NoValues", false), ("NotFit", false), ("NotKind", false), ("NotProgram", false), ("NotTyped", false), ("NotWhole", false), ("Nothing", false), ("Stuck", true), ("TooGreat", false), ("TooMany", false), ("Twice", false), ("Untaken", false), ("UseRing", false), ("Wrong", false)]
def L_SwornError : List (Str × Bool) := [("Broken", true), ("Hidden", true), ("NoIndex", true), ("NoModule", true), ("NoName", true), ("NoText", true), ("NoValues", true), ("NotFit", true), ("NotKind", true), ("NotProgram", true), ("NotTyped", true), ("NotWhole", true), ("Nothing", true), ("Stuck", true), ("TooGreat", true), ("TooMany", true), ("Twice", true), ("Untaken", true), ("UseRing", true), ("Wrong", true)]
def L_TooGreat : List (Str × Bool) := [("Broken", false), ("Hidden", false), ("NoIndex", false), ("NoModule", false), ("NoName", false), ("NoText", false), ("NoValues", false), ("NotFit", false), ("NotKind", false), ("NotProgram", false), ("NotTyped", false), ("NotWhole", false), ("Nothing", false), ("Stuck", false), ("TooGreat", true), ("TooMany", false), ("Twice", false), ("Untaken", false), ("UseRing", false), ("Wrong", false)]
def L_TooMany : List (Str × Bool) := [("Broken", false), ("Hidden", false), ("NoIndex", false), ("NoModule", false), ("NoName", false), ("NoText", false), ("NoValues", false), ("NotFit", false), ("NotKind", false), ("NotProgram", false), ("NotTyped", false), ("NotWhole", false), ("Nothing", false), ("Stuck", false), ("TooGreat", false), ("TooMany", true), ("Twice", false), ("Untaken", false), ("UseRing", false), ("Wrong", false)]
def L_Twice : List (Str × Bool) := [("Broken", false), ("Hidden", false), ("NoIndex", false), ("NoModule", false), ("NoName", false), ("NoText", false), ("NoValues", false), ("NotFit", false), ("NotKind", false), ("NotProgram", false), ("NotTyped", false), ("NotWhole", false), ("Nothing", false), ("Stuck", false), ("TooGreat", false), ("TooMany", false), ("Twice", true), ("Untaken", false), ("UseRing", false), ("Wrong", false)]
def L_Untaken : List (Str × Bool) := [("Broken", false), ("Hidden", false), ("NoIndex", false), ("NoModule", false), ("NoName", false), ("NoText", false), ("NoValues", false), ("NotFit", false), ("NotKind", false), ("NotProgram", false), ("NotTyped", false), ("NotWhole", false), ("Nothing", false), ("Stuck", false), ("TooGreat", false), ("TooMany", false), ("Twice", false), ("Untaken", true), ("UseRing", false), ("Wrong", false)]
def L_UseRing : List (Str × Bool) := [("Broken", false), ("Hidden", false), ("NoIndex", false), ("NoModule", false), ("NoName", false), ("NoText", false), ("NoValues", false), ("NotFit", false), ("NotKind", false), ("NotProgram", false), ("NotTyped", false), ("NotWhole", false), ("Nothing", false), ("Stuck", false), ("TooGreat", false), ("TooMany", false), ("Twice", false), ("Untaken", false), ("UseRing", true), ("Wrong", false)]
def L_Wrong : List (Str × Bool) := [("Broken", false), ("Hidden", false), ("NoIndex", false), ("NoModule", false), ("NoName", false), ("NoText", false), ("NoValues", false), ("NotFit", false), ("NotKind", false), ("NotProgram", false), ("NotTyped", false), ("NotWhole", false), ("Nothing", false), ("Stuck", false), ("TooGreat", false), ("TooMany", false), ("Twice", false), ("Untaken", false), ("UseRing", false), ("Wrong", true)]
def L_ValueError : List (Str × Bool) := [("Broken", true), ("Hidden", true), ("NoIndex", true), ("NoModule", true), ("NoName", true), ("NoText", true), ("NoValues", true), ("NotFit", true), ("NotKind", true), ("NotProgram", true), ("NotTyped", true), ("NotWhole", true), ("Nothing", true), ("Stuck", true), ("TooGreat", true), ("TooMany", true), ("Twice", true), ("Untaken", true), ("UseRing", true), ("Wrong", true)]
/-! what they do -/
abbrev Calls := Nat → List W → Store → R W
/-- is_integer -/
noncomputable def b0 (call : Calls) : FS := (fRet (fAndV (f1 (gIsiA "int") (fVar 0)) (f1 gNot (f1 (gIsiA "bool") (fVar 0)))))
/-- is_number -/
noncomputable def b1 (call : Calls) : FS := (fRet (fAndV (fCall 1 (call 0) (fAc (fVar 0) fA0)) (fChain gLe gLe (fC k_LEAST_NUMBER) (fVar 0) (fC k_GREATEST_NUMBER))))
/-- begins_name -/
noncomputable def b2 (call : Calls) : FS := (fSeq (fIf (fOrT (fNotT (fTru (f1 (gIsiA "str") (fVar 0)))) (fNotT (fTest (fChain gLe gLe (fC (.int 1)) (fL gLen (fAc (fVar 0) fA0)) (fC k_LONGEST_NAME))))) (fRet (fC (.bool false))) fNext) (fRet (fAndV (f2 gInA (f2 gIx (fVar 0) (fC (.int 0))) (fVar 1)) (fL gAll (fAc (fLc (fItStr (fVar 0)) (gtName 2) fYes (f2 gInA (fVar 2) (fC k_NAME_SIGNS)) [2]) fA0)))))
/-- is_small -/
noncomputable def b3 (call : Calls) : FS := (fRet (fAndV (fCall 2 (call 2) (fAc (fVar 0) (fAc (fC k_SMALL_LETTERS) fA0))) (f2 gNotInA (fVar 0) (fC k_BARRED))))
/-- is_great -/
noncomputable def b4 (call : Calls) : FS := (fRet (fCall 2 (call 2) (fAc (fVar 0) (fAc (fC k_GREAT_LETTERS) fA0))))
/-- is_name -/
noncomputable def b5 (call : Calls) : FS := (fSeq (fIf (fNotT (fTru (f1 (gIsiA "str") (fVar 0)))) (fRet (fC (.bool false))) fNext) (fSeq (fAsg (fMethS mSplit (fVar 0) (fAc (fC (.str ".")) fA0)) (gtName 1)) (fRet (fAndV (fCall 1 (call 3) (fAc (f2 gIx (fVar 1) (f1 gNeg (fC (.int 1)))) fA0)) (fOrV (f2 gEq (fL gLen (fAc (fVar 1) fA0)) (fC (.int 1))) (fAndV (f2 gEq (fL gLen (fAc (fVar 1) fA0)) (fC (.int 2))) (fCall 1 (call 4) (fAc (f2 gIx (fVar 1) (fC (.int 0))) fA0))))))))
/-- is_label -/
noncomputable def b6 (call : Calls) : FS := (fRet (fCall 1 (call 3) (fAc (fVar 0) fA0)))
/-- is_maker -/
noncomputable def b7 (call : Calls) : FS := (fSeq (fIf (fNotT (fTru (f1 (gIsiA "str") (fVar 0)))) (fRet (fC (.bool false))) fNext) (fSeq (fAsg (fMethS mSplit (fVar 0) (fAc (fC (.str ".")) fA0)) (gtName 1)) (fRet (fAndV (f2 gLe (fL gLen (fAc (fVar 1) fA0)) (fC (.int 2))) (fL gAll (fAc (fLc (fItS (fVar 1)) (gtName 2) fYes (fCall 1 (call 4) (fAc (fVar 2) fA0)) [2]) fA0))))))
/-- wrapped -/
noncomputable def b8 (call : Calls) : FS := (fRet (f2 gAdd (f2 gMod (f2 gSub (fVar 0) (fC k_LEAST_NUMBER)) (fC k_ALL_NUMBERS)) (fC k_LEAST_NUMBER)))
/-- _law_bag -/
noncomputable def b9 (call : Calls) : FS := (fRet (fL gLive (fAc (fC (.int 0)) (fAc (fC (.int 1234567891)) (fAc (fC (.int 0)) (fAc (fLc (fItS (fSl gSlA (fVar 0) fNoPart (fPart (fC (.int 63))))) (gtName 1) fYes (fL gAbs (fAc (fVar 1) fA0)) [1]) fA0))))))
/-- _law_take -/
noncomputable def b10 (call : Calls) : FS := (fSeq (fIf (fTest (f2 gEq (f2 gIx (fVar 0) (fC (.int 0))) (fC (.int 0)))) (fSeq (fAsg (f2 gIx (f2 gAdd (fSl gSlA (f2 gIx (fVar 0) (fC (.int 3))) (fPart (f2 gIx (fVar 0) (fC (.int 2)))) fNoPart) (fL gLst (fAc (fC (.int 0)) fA0))) (fC (.int 0))) (gtName 2)) (fSeq (fAugAt (fVar 0) (fC (.int 2)) (gI2 (fun _ _ => true) fun i j => .int (i + j)) (fC (.int 1))) (fSeq (fIf (fTest (f2 gGe (fVar 2) (f2 gPow (fC (.int 10)) (fC (.int 18))))) (fStore (fVar 2) (fVar 0) (fC (.int 0))) fNext) (fSeq (fAsg (f2 gAdd (f2 gAdd (f2 gMulA (f2 gIx (fVar 0) (fC (.int 1))) (fC (.int 48271))) (f2 gMod (fL gIntA (fAc (fVar 2) fA0)) (fC (.int 2147483647)))) (f2 gMulA (fC (.int 7919)) (f2 gIx (fVar 0) (fC (.int 2))))) (gtName 3)) (fStore (f2 gMod (fL gIntA (fAc (fVar 3) fA0)) (fC (.int 2147483647))) (fVar 0) (fC (.int 1))))))) fNext) (fSeq (fIf (fTest (f2 gGt (f2 gIx (fVar 0) (fC (.int 0))) (fC (.int 0)))) (fSeq (fAsg (f2 gMod (fL gIntA (fAc (f2 gIx (fVar 0) (fC (.int 0))) fA0)) (fVar 1)) (gtName 4)) (fSeq (fStore (f2 gDiv (fL gIntA (fAc (f2 gIx (fVar 0) (fC (.int 0))) fA0)) (fVar 1)) (fVar 0) (fC (.int 0))) (fRet (fVar 4)))) fNext) (fSeq (fAsg (f2 gMod (fL gIntA (fAc (f2 gMulA (f2 gAdd (f2 gIx (fVar 0) (fC (.int 1))) (fC (.int 1))) (fC (.int 39373))) fA0)) (fC (.int 1000000007))) (gtName 5)) (fSeq (fAsg (f2 gMod (fL gIntA (fAc (f2 gMulA (f2 gMod (fL gIntA (fAc (f2 gMulA (fVar 5) (fVar 5)) fA0)) (fC (.int 998244353))) (fC (.int 30011))) fA0)) (fC (.int 998244353))) (gtName 6)) (fRet (f2 gMod (fL gIntA (fAc (f2 gDiv (fVar 6) (fC (.int 7))) fA0)) (fVar 1)))))))
/-- _law_some -/
noncomputable def b11 (call : Calls) : FS := (fRet (f2 gIx (fVar 1) (fCall 2 (call 10) (fAc (fVar 0) (fAc (fL gLen (fAc (fVar 1) fA0)) fA0)))))
/-- _law_alike -/
noncomputable def b12 (call : Calls) : FS := (fRet (fAndV (f2 gEqA (fVar 0) (fVar 1)) (f2 gEqA (fL gReprA (fAc (fVar 0) fA0)) (fL gReprA (fAc (fVar 1) fA0)))))
/-- _law_is_int -/
noncomputable def b13 (call : Calls) : FS := (fRet (fAndV (f1 (gIsiA "int") (fVar 0)) (f1 gNot (f1 (gIsiA "bool") (fVar 0)))))
/-- _law_wrapped -/
noncomputable def b14 (call : Calls) : FS := (fRet (f2 gSub (f2 gMod (fL gIntA (fAc (f2 gAdd (fVar 0) (fC (.int 2147483648))) fA0)) (fC (.int 4294967296))) (fC (.int 2147483648))))
/-- _law_barred -/
noncomputable def b15 (call : Calls) : FS := (fSeq (fAsg (fL gLst (fAc (fC (.str "module")) (fAc (fC (.str "use")) (fAc (fC (.str "give")) (fAc (fC (.str "kind")) (fAc (fC (.str "let")) (fAc (fC (.str "rec")) (fAc (fC (.str "and")) (fAc (fC (.str "in")) (fAc (fC (.str "fn")) (fAc (fC (.str "if")) (fAc (fC (.str "then")) (fAc (fC (.str "else")) (fAc (fC (.str "match")) (fAc (fC (.str "with")) fA0))))))))))))))) (gtName 0)) (fRet (f2 gAdd (fVar 0) (fL gLst (fAc (fC (.str "end")) (fAc (fC (.str "new")) (fAc (fC (.str "get")) (fAc (fC (.str "put")) (fAc (fC (.str "tell")) (fAc (fC (.str "true")) (fAc (fC (.str "false")) fA0)))))))))))
/-- _law_small_signs -/
noncomputable def b16 (call : Calls) : FS := (fRet (fC (.str "abcdefghijklmnopqrstuvwxyz")))
/-- _law_great_signs -/
noncomputable def b17 (call : Calls) : FS := (fRet (fC (.str "ABCDEFGHIJKLMNOPQRSTUVWXYZ")))
/-- _law_figures -/
noncomputable def b18 (call : Calls) : FS := (fRet (fC (.str "0123456789")))
/-- _law_is_spelt -/
noncomputable def b19 (call : Calls) : FS := (fSeq (fIf (fOrT (fNotT (fTru (f1 (gIsiA "str") (fVar 0)))) (fOrT (fNotT (fTest (fChain gLe gLe (fC (.int 1)) (fL gLen (fAc (fVar 0) fA0)) (fC (.int 20))))) (fTest (f2 gNotInA (f2 gIx (fVar 0) (fC (.int 0))) (fVar 1))))) (fRet (fC (.bool false))) fNext) (fSeq (fAsg (f2 gAdd (f2 gAdd (f2 gAdd (fCall 0 (call 16) fA0) (fCall 0 (call 17) fA0)) (fCall 0 (call 18) fA0)) (fC (.str "_"))) (gtName 2)) (fRet (f2 gEq (fLc (fItStr (fVar 0)) (gtName 3) (fTest (f2 gNotInA (fVar 3) (fVar 2))) (fVar 3) [3]) (fL gLst fA0)))))
/-- _law_is_small -/
noncomputable def b20 (call : Calls) : FS := (fRet (fAndV (fCall 2 (call 19) (fAc (fVar 0) (fAc (fCall 0 (call 16) fA0) fA0))) (f2 gNotInA (fVar 0) (fCall 0 (call 15) fA0))))
/-- _law_is_great -/
noncomputable def b21 (call : Calls) : FS := (fRet (fCall 2 (call 19) (fAc (fVar 0) (fAc (fCall 0 (call 17) fA0) fA0))))
/-- _law_sides -/
noncomputable def b22 (call : Calls) : FS := (fRet (fIfE (fTru (f1 (gIsiA "str") (fVar 0))) (fL gTupleA (fAc (fMethS mSplit (fVar 0) (fAc (fC (.str ".")) fA0)) fA0)) (fL gTup fA0)))
/-- _law_is_name -/
noncomputable def b23 (call : Calls) : FS := (fSeq (fAsg (fCall 1 (call 22) (fAc (fVar 0) fA0)) (gtName 1)) (fRet (fOrV (fCall 1 (call 20) (fAc (fVar 0) fA0)) (fAndV (f2 gEq (fL gLen (fAc (fVar 1) fA0)) (fC (.int 2))) (fAndV (fCall 1 (call 21) (fAc (f2 gIx (fVar 1) (fC (.int 0))) fA0)) (fCall 1 (call 20) (fAc (f2 gIx (fVar 1) (fC (.int 1))) fA0)))))))
/-- _law_is_maker -/
noncomputable def b24 (call : Calls) : FS := (fSeq (fAsg (fCall 1 (call 22) (fAc (fVar 0) fA0)) (gtName 1)) (fRet (fAndV (f2 gInA (fL gLen (fAc (fVar 1) fA0)) (fL gTup (fAc (fC (.int 1)) (fAc (fC (.int 2)) fA0)))) (f2 gEq (fLc (fItS (fVar 1)) (gtName 2) (fNotT (fTru (fCall 1 (call 21) (fAc (fVar 2) fA0)))) (fVar 2) [2]) (fL gLst fA0)))))
/-- _law_is_number -/
noncomputable def b25 (call : Calls) : FS := (fRet (fAndV (fCall 1 (call 13) (fAc (fVar 0) fA0)) (fChain gLe gLe (f1 gNeg (fC (.int 2147483648))) (fVar 0) (fC (.int 2147483647)))))
/-- _law_odd -/
noncomputable def b26 (call : Calls) : FS := (fSeq (fAsg (fL gLst (fAc (fC .none) (fAc (fC (.bool true)) (fAc (fC (.bool false)) (fAc (fC (.int 0)) (fAc (fC (.int 1)) (fAc (f1 gNeg (fC (.int 1))) (fAc (f2 gPow (fC (.int 10)) (fC (.int 39))) (fAc (fC (.str "")) (fAc (fC (.str "x")) (fAc (fC (.str "A")) (fAc (fC (.str "let")) (fAc (fC (.str "M.x")) (fAc (fC (.str "x.y")) (fAc (fC (.str "A.B")) (fAc (fL gTup fA0) (fAc (fL gLst fA0) (fAc (fC (.dict [(.bool true, .none)])) (fAc (fL gTup (fAc (fC (.int 0)) fA0)) (fAc (fL gLst (fAc (fC (.int 0)) fA0)) fA0)))))))))))))))))))) (gtName 1)) (fSeq (fAsg (f2 gAdd (fVar 1) (fL gLst (fAc (fL gTup (fAc (fC (.str "num")) fA0)) (fAc (fL gTup (fAc (fC (.str "num")) (fAc (fC (.int 1)) fA0))) (fAc (fL gTup (fAc (fC (.str "num")) (fAc (fC (.bool true)) fA0))) (fAc (fL gTup (fAc (fC (.str "num")) (fAc (fC (.int 2147483648)) fA0))) (fAc (fL gTup (fAc (fC (.str "any")) fA0)) (fAc (fL gLst (fAc (fC (.str "any")) fA0)) (fAc (fL gTup (fAc (fC (.str "var")) (fAc (fC (.int 0)) fA0))) (fAc (fL gTup (fAc (fC (.str "var")) (fAc (f1 gNeg (fC (.int 1))) fA0))) fA0)))))))))) (gtName 1)) (fSeq (fAsg (f2 gAdd (fVar 1) (fL gLst (fAc (fL gTup (fAc (fC (.str "tuple")) (fAc (fL gTup (fAc (fL gTup (fAc (fC (.str "num")) (fAc (fC (.int 1)) fA0))) fA0)) fA0))) (fAc (fL gTup (fAc (fC (.str "name")) (fAc (fC (.str "Let")) fA0))) (fAc (fL gTup (fAc (fC (.str "name")) (fAc (fC (.str "end")) fA0))) (fAc (fL gTup (fAc (fC (.str "bind")) (fAc (fC (.str "M.x")) fA0))) (fAc (fL gTup (fAc (fC (.str "make")) (fAc (fC (.str "A")) (fAc (fL gTup fA0) fA0)))) fA0))))))) (gtName 1)) (fSeq (fAsg (f2 gAdd (fVar 1) (fL gLst (fAc (fL gTup (fAc (fC (.str "record")) (fAc (fL gTup fA0) fA0))) (fAc (fL gTup (fAc (fC (.str "truth")) (fAc (fC (.int 1)) fA0))) (fAc (fL gTup (fAc (fC (.str "of")) (fAc (fC (.str "A")) (fAc (fC .none) fA0)))) (fAc (fL gTup (fAc (fC (.str "rec")) (fAc (fL gTup fA0) (fAc (fL gTup (fAc (fC (.str "num")) (fAc (fC (.int 1)) fA0))) fA0)))) (fAc (fL gTup (fAc (fC (.str "op")) (fAc (fC (.str "-")) (fAc (fC (.int 0)) (fAc (fC (.int 0)) fA0))))) fA0))))))) (gtName 1)) (fRet (fCall 2 (call 11) (fAc (fVar 0) (fAc (f2 gAdd (fVar 1) (fL gLst (fAc (fC (.dict [(.bool true, .none), (.int 0, .int 1)])) (fAc (fL gTup (fAc (fL gTup fA0) fA0)) fA0)))) fA0))))))))
/-- _law_classes_of -/
noncomputable def b27 (call : Calls) : FS := (fSeq (fAsg (fL gLive (fAc (f1 (gIsE L_Broken) (fVar 0)) (fAc (f1 (gIsE L_Hidden) (fVar 0)) (fAc (f1 (gIsE L_NoIndex) (fVar 0)) fA0)))) (gtName 1)) (fSeq (fDrop (fMeth mExtendA (fVar 1) (fAc (fL gLst (fAc (f1 (gIsE L_NoModule) (fVar 0)) (fAc (f1 (gIsE L_NoName) (fVar 0)) (fAc (f1 (gIsE L_NoText) (fVar 0)) fA0)))) fA0))) (fSeq (fDrop (fMeth mAppend (fVar 1) (fAc (f1 (gIsE L_NoValues) (fVar 0)) fA0))) (fSeq (fDrop (fMeth mExtendA (fVar 1) (fAc (fL gLst (fAc (f1 (gIsE L_NotFit) (fVar 0)) (fAc (f1 (gIsE L_NotKind) (fVar 0)) (fAc (f1 (gIsE L_NotProgram) (fVar 0)) fA0)))) fA0))) (fSeq (fDrop (fMeth mExtendA (fVar 1) (fAc (fL gLst (fAc (f1 (gIsE L_NotTyped) (fVar 0)) (fAc (f1 (gIsE L_NotWhole) (fVar 0)) (fAc (f1 (gIsE L_Nothing) (fVar 0)) fA0)))) fA0))) (fSeq (fDrop (fMeth mExtendA (fVar 1) (fAc (fL gLst (fAc (f1 (gIsE L_Stuck) (fVar 0)) (fAc (f1 (gIsE L_TooGreat) (fVar 0)) (fAc (f1 (gIsE L_TooMany) (fVar 0)) fA0)))) fA0))) (fSeq (fDrop (fMeth mExtendA (fVar 1) (fAc (fL gLst (fAc (f1 (gIsE L_Twice) (fVar 0)) (fAc (f1 (gIsE L_Untaken) (fVar 0)) fA0))) fA0))) (fSeq (fDrop (fMeth mExtendA (fVar 1) (fAc (fL gLst (fAc (f1 (gIsE L_UseRing) (fVar 0)) (fAc (f1 (gIsE L_Wrong) (fVar 0)) fA0))) fA0))) (fRet (fLc (fRng rng1 (fAc (fC (.int 20)) fA0)) (gtName 2) (fTru (f2 gIx (fVar 1) (fVar 2))) (fVar 2) [2]))))))))))
/-- _law_error_rows -/
noncomputable def b28 (call : Calls) : FS := (fSeq (fAsg (fL gTup (fAc (fEr "Broken" ["index"] (fAc (fVar 0) fA0)) (fAc (fEr "Hidden" ["module", "name"] (fAc (fVar 0) (fAc (fVar 1) fA0))) (fAc (fEr "NoIndex" ["index"] (fAc (fVar 0) fA0)) (fAc (fEr "NoModule" ["module", "name"] (fAc (fVar 0) (fAc (fVar 1) fA0))) fA0))))) (gtTup 4 (gtCons (gtName 2) (gtCons (gtName 3) (gtCons (gtName 4) (gtCons (gtName 5) gtNil)))))) (fSeq (fAsg (fL gTup (fAc (fEr "NoName" ["module", "name"] (fAc (fVar 0) (fAc (fVar 1) fA0))) (fAc (fEr "NoText" ["line", "column"] (fAc (fVar 0) (fAc (fVar 1) fA0))) (fAc (fEr "NoValues" ["module", "name"] (fAc (fVar 0) (fAc (fVar 1) fA0))) (fAc (fEr "NotFit" ["module", "name"] (fAc (fVar 0) (fAc (fVar 1) fA0))) fA0))))) (gtTup 4 (gtCons (gtName 6) (gtCons (gtName 7) (gtCons (gtName 8) (gtCons (gtName 9) gtNil)))))) (fSeq (fAsg (fL gTup (fAc (fEr "NotTyped" ["lot"] (fAc (fVar 0) fA0)) (fAc (fEr "NotWhole" ["place", "pattern"] (fAc (fVar 0) (fAc (fVar 1) fA0))) (fAc (fEr "TooGreat" ["most"] (fAc (fVar 0) fA0)) (fAc (fEr "TooMany" ["most"] (fAc (fVar 0) fA0)) fA0))))) (gtTup 4 (gtCons (gtName 10) (gtCons (gtName 11) (gtCons (gtName 12) (gtCons (gtName 13) gtNil)))))) (fSeq (fPar3 14 15 16 (fAc (fEr "Twice" ["module", "name"] (fAc (fVar 0) (fAc (fVar 1) fA0))) (fAc (fEr "UseRing" ["names"] (fAc (fVar 0) fA0)) (fAc (fEr "Wrong" ["place"] (fAc (fVar 0) fA0)) fA0)))) (fSeq (fAsg (fL gLiveW (fAc (fL gTup (fAc (fVar 2) (fAc (fL gLstW (fAc (f1 (gErF "Broken" ["index"] "index") (fVar 2)) fA0)) fA0))) (fAc (fL gTup (fAc (fVar 3) (fAc (fL gLstW (fAc (f1 (gErF "Hidden" ["module", "name"] "module") (fVar 3)) (fAc (f1 (gErF "Hidden" ["module", "name"] "name") (fVar 3)) fA0))) fA0))) (fAc (fL gTup (fAc (fVar 4) (fAc (fL gLstW (fAc (f1 (gErF "NoIndex" ["index"] "index") (fVar 4)) fA0)) fA0))) fA0)))) (gtName 17)) (fSeq (fDrop (fMethW mExtW (fVar 17) (fAc (fL gLstW (fAc (fL gTup (fAc (fVar 5) (fAc (fL gLstW (fAc (f1 (gErF "NoModule" ["module", "name"] "module") (fVar 5)) (fAc (f1 (gErF "NoModule" ["module", "name"] "name") (fVar 5)) fA0))) fA0))) (fAc (fL gTup (fAc (fVar 6) (fAc (fL gLstW (fAc (f1 (gErF "NoName" ["module", "name"] "module") (fVar 6)) (fAc (f1 (gErF "NoName" ["module", "name"] "name") (fVar 6)) fA0))) fA0))) fA0))) fA0))) (fSeq (fDrop (fMethW mExtW (fVar 17) (fAc (fL gLstW (fAc (fL gTup (fAc (fVar 7) (fAc (fL gLstW (fAc (f1 (gErF "NoText" ["line", "column"] "line") (fVar 7)) (fAc (f1 (gErF "NoText" ["line", "column"] "column") (fVar 7)) fA0))) fA0))) (fAc (fL gTup (fAc (fVar 8) (fAc (fL gLstW (fAc (f1 (gErF "NoValues" ["module", "name"] "module") (fVar 8)) (fAc (f1 (gErF "NoValues" ["module", "name"] "name") (fVar 8)) fA0))) fA0))) fA0))) fA0))) (fSeq (fDrop (fMethW mExtW (fVar 17) (fAc (fL gLstW (fAc (fL gTup (fAc (fVar 9) (fAc (fL gLstW (fAc (f1 (gErF "NotFit" ["module", "name"] "module") (fVar 9)) (fAc (f1 (gErF "NotFit" ["module", "name"] "name") (fVar 9)) fA0))) fA0))) (fAc (fL gTup (fAc (fEr0 "NotKind") (fAc (fL gLstW fA0) fA0))) (fAc (fL gTup (fAc (fEr0 "NotProgram") (fAc (fL gLstW fA0) fA0))) (fAc (fL gTup (fAc (fVar 10) (fAc (fL gLstW (fAc (f1 (gErF "NotTyped" ["lot"] "lot") (fVar 10)) fA0)) fA0))) fA0))))) fA0))) (fSeq (fDrop (fMethW mExtW (fVar 17) (fAc (fL gLstW (fAc (fL gTup (fAc (fVar 11) (fAc (fL gLstW (fAc (f1 (gErF "NotWhole" ["place", "pattern"] "place") (fVar 11)) (fAc (f1 (gErF "NotWhole" ["place", "pattern"] "pattern") (fVar 11)) fA0))) fA0))) (fAc (fL gTup (fAc (fEr0 "Nothing") (fAc (fL gLstW fA0) fA0))) (fAc (fL gTup (fAc (fEr0 "Stuck") (fAc (fL gLstW fA0) fA0))) (fAc (fL gTup (fAc (fVar 12) (fAc (fL gLstW (fAc (f1 (gErF "TooGreat" ["most"] "most") (fVar 12)) fA0)) fA0))) fA0))))) fA0))) (fSeq (fDrop (fMethW mExtW (fVar 17) (fAc (fL gLstW (fAc (fL gTup (fAc (fVar 13) (fAc (fL gLstW (fAc (f1 (gErF "TooMany" ["most"] "most") (fVar 13)) fA0)) fA0))) (fAc (fL gTup (fAc (fVar 14) (fAc (fL gLstW (fAc (f1 (gErF "Twice" ["module", "name"] "module") (fVar 14)) (fAc (f1 (gErF "Twice" ["module", "name"] "name") (fVar 14)) fA0))) fA0))) (fAc (fL gTup (fAc (fEr0 "Untaken") (fAc (fL gLstW fA0) fA0))) (fAc (fL gTup (fAc (fVar 15) (fAc (fL gLstW (fAc (f1 (gErF "UseRing" ["names"] "names") (fVar 15)) fA0)) fA0))) fA0))))) fA0))) (fRet (f2 gCatW (fVar 17) (fL gLstW (fAc (fL gTup (fAc (fVar 16) (fAc (fL gLstW (fAc (f1 (gErF "Wrong" ["place"] "place") (fVar 16)) fA0)) fA0))) fA0))))))))))))))
/-- _law_are_errors_right -/
noncomputable def b29 (call : Calls) : FS := (fSeq (fFor (fRng enumK (fAc (fCall 2 (call 28) (fAc (fVar 0) (fAc (fVar 1) fA0))) fA0)) (gtTup 2 (gtCons (gtName 2) (gtCons (gtTup 2 (gtCons (gtName 3) (gtCons (gtName 4) gtNil))) gtNil))) (fSeq (fIf (fOrT (fTest (f2 gNe (fCall 1 (call 27) (fAc (fVar 3) fA0)) (fL gLstW (fAc (fVar 2) fA0)))) (fOrT (fNotT (fTru (f1 (gIsE L_SwornError) (fVar 3)))) (fNotT (fTru (f1 (gIsE L_ValueError) (fVar 3)))))) (fRet (fC (.bool false))) fNext) (fIf (fNotT (fTru (fCall 2 (call 12) (fAc (fVar 4) (fAc (fSl gSlW (fL gLstW (fAc (fVar 0) (fAc (fVar 1) fA0))) fNoPart (fPart (fL gLenW (fAc (fVar 4) fA0)))) fA0))))) (fRet (fC (.bool false))) fNext))) (fRet (fC (.bool true))))
/-- _law_near_name -/
noncomputable def b30 (call : Calls) : FS := (fSeq (fAsg (fCall 2 (call 11) (fAc (fVar 0) (fAc (fL gLst (fAc (fC (.str "x")) (fAc (fC (.str "aB_1")) (fAc (fC (.str "M")) (fAc (fC (.str "List")) (fAc (fC (.str "get")) (fAc (fC (.str "kind")) (fAc (fC (.str "num")) (fAc (fC (.str "A1")) (fAc (f2 gMulA (fC (.str "a")) (fC (.int 19))) (fAc (f2 gMulA (fC (.str "Z")) (fC (.int 20))) (fAc (fC (.str "endOf")) (fAc (fC (.str "true")) fA0))))))))))))) fA0))) (gtName 1)) (fSeq (fAsg (fCall 2 (call 11) (fAc (fVar 0) (fAc (fL gLst (fAc (fC (.str "map")) (fAc (fC (.str "Cons")) (fAc (fC (.str "rec")) (fAc (fC (.str "x")) (fAc (fC (.str "X")) (fAc (fC (.str "")) (fAc (fC (.str "_")) (fAc (fC (.str "1")) fA0))))))))) fA0))) (gtName 2)) (fSeq (fAsg (fL gLst (fAc (fVar 1) (fAc (f2 gAdd (f2 gAdd (fVar 1) (fC (.str "."))) (fVar 2)) (fAc (f2 gAdd (fVar 1) (fVar 2)) (fAc (f2 gAdd (fVar 2) (fVar 1)) (fAc (f2 gAdd (fVar 1) (fC (.str "."))) (fAc (f2 gAdd (fC (.str ".")) (fVar 1)) (fAc (f2 gAdd (fVar 1) (fC (.str "x"))) (fAc (f2 gAdd (f2 gAdd (f2 gAdd (fVar 1) (fC (.str "."))) (fVar 2)) (fC (.str ".x"))) fA0))))))))) (gtName 3)) (fSeq (fAsg (f2 gAdd (fVar 3) (fL gLst (fAc (f2 gAdd (fVar 1) (fC (.str "\n"))) fA0))) (gtName 3)) (fSeq (fAsg (f2 gAdd (fVar 3) (fL gLst (fAc (f2 gAdd (fVar 1) (fC (.str " "))) (fAc (f2 gAdd (fVar 1) (fVar 1)) (fAc (f2 gAdd (fC (.str "_")) (fVar 1)) (fAc (f2 gAdd (fC (.str "1")) (fVar 1)) (fAc (fMethS0 mUpper (fVar 1)) (fAc (fMethS0 mLower (fVar 1)) (fAc (f2 gAdd (fVar 1) (fC (.str "-"))) (fAc (f2 gAdd (fC (.str "?")) (fVar 1)) fA0)))))))))) (gtName 3)) (fRet (fCall 2 (call 11) (fAc (fVar 0) (fAc (fVar 3) fA0)))))))))
/-- _law_is_named -/
noncomputable def b31 (call : Calls) : FS := (fSeq (fAsg (fL gLst (fAc (fCall 1 (call 0) (fAc (fVar 0) fA0)) (fAc (fCall 1 (call 1) (fAc (fVar 0) fA0)) (fAc (fCall 1 (call 3) (fAc (fVar 0) fA0)) (fAc (fCall 1 (call 4) (fAc (fVar 0) fA0)) (fAc (fCall 1 (call 5) (fAc (fVar 0) fA0)) fA0)))))) (gtName 1)) (fSeq (fAsg (fL gLst (fAc (fCall 1 (call 13) (fAc (fVar 0) fA0)) (fAc (fCall 1 (call 25) (fAc (fVar 0) fA0)) (fAc (fCall 1 (call 20) (fAc (fVar 0) fA0)) (fAc (fCall 1 (call 21) (fAc (fVar 0) fA0)) (fAc (fCall 1 (call 23) (fAc (fVar 0) fA0)) fA0)))))) (gtName 2)) (fSeq (fAsg (fL gLst (fAc (fCall 1 (call 6) (fAc (fVar 0) fA0)) (fAc (fCall 1 (call 7) (fAc (fVar 0) fA0)) fA0))) (gtName 3)) (fRet (fCall 2 (call 12) (fAc (f2 gAdd (fVar 1) (fVar 3)) (fAc (f2 gAdd (fVar 2) (fL gLst (fAc (fCall 1 (call 20) (fAc (fVar 0) fA0)) (fAc (fCall 1 (call 24) (fAc (fVar 0) fA0)) fA0)))) fA0)))))))
/-- law -/
noncomputable def b32 (call : Calls) : FS := (fSeq (fAsg (fCallL 1 (call 9) (fAc (fVar 0) fA0)) (gtName 1)) (fSeq (fPar 2 3 (fAc (fCall 1 (call 26) (fAc (fVar 1) fA0)) (fAc (fL gLive (fAc (fC (.int 0)) fA0)) fA0))) (fSeq (fAsg (fCall 2 (call 28) (fAc (fVar 3) (fAc (fVar 2) fA0))) (gtName 4)) (fSeq (fDrop (fMeth mAppend (fVar 3) (fAc (fVar 2) fA0))) (fSeq (fFor (fItS (fVar 4)) (gtTup 2 (gtCons (gtName 5) (gtCons (gtName 6) gtNil))) (fIf (fNotT (fTru (fCall 2 (call 12) (fAc (fVar 6) (fAc (fSl gSlW (fL gLstW (fAc (fVar 3) (fAc (fVar 2) fA0))) fNoPart (fPart (fL gLenW (fAc (fVar 6) fA0)))) fA0))))) (fRet (fC (.bool false))) fNext)) (fSeq (fIf (fOrT (fNotT (fTru (fCall 2 (call 29) (fAc (fVar 2) (fAc (fL gLstW (fAc (fVar 2) fA0)) fA0))))) (fNotT (fTru (fCall 2 (call 29) (fAc (fL gLstW (fAc (fVar 2) fA0)) (fAc (fVar 2) fA0)))))) (fRet (fC (.bool false))) fNext) (fSeq (fFor (fRng rng1 (fAc (fC (.int 12)) fA0)) (gtName 7) (fSeq (fAsg (fCall 2 (call 11) (fAc (fVar 1) (fAc (fL gLstW (fAc (fC (.int 2147483647)) (fAc (fC (.int 2147483648)) (fAc (f1 gNeg (fC (.int 2147483649))) (fAc (f2 gPow (fC (.int 10)) (fC (.int 39))) (fAc (f1 gNeg (f2 gPow (fC (.int 10)) (fC (.int 39)))) (fAc (fC (.int 4294967296)) (fAc (fC (.int 0)) (fAc (f1 gNeg (fC (.int 1))) fA0))))))))) fA0))) (gtName 8)) (fSeq (fAsg (f2 gSub (f2 gAdd (fVar 8) (fCall 2 (call 10) (fAc (fVar 1) (fAc (fC (.int 9)) fA0)))) (fC (.int 4))) (gtName 8)) (fSeq (fIf (fNotT (fTru (fCall 2 (call 12) (fAc (fCall 1 (call 8) (fAc (fVar 8) fA0)) (fAc (fCall 1 (call 14) (fAc (fVar 8) fA0)) fA0))))) (fRet (fC (.bool false))) fNext) (fSeq (fAsg (fCall 2 (call 11) (fAc (fVar 1) (fAc (fCall 0 (call 15) fA0) fA0))) (gtName 9)) (fSeq (fAsg (fL gLstW (fAc (fVar 9) (fAc (f2 gAdd (fVar 9) (fC (.str "s"))) (fAc (f2 gAdd (fC (.str "M.")) (fVar 9)) (fAc (f2 gAdd (fVar 9) (fC (.str ".A"))) fA0))))) (gtName 10)) (fFor (fItS (f2 gAdd (fL gLstW (fAc (fVar 8) (fAc (fCall 1 (call 30) (fAc (fVar 1) fA0)) (fAc (fCall 1 (call 26) (fAc (fVar 1) fA0)) (fAc (fC (.dict [(.none, .none)])) fA0))))) (fVar 10))) (gtName 11) (fIf (fNotT (fTru (fCall 1 (call 31) (fAc (fVar 11) fA0)))) (fRet (fC (.bool false))) fNext)))))))) (fRet (fC (.bool true))))))))))
noncomputable def callN : Nat → Calls
  | 0 => fun _ _ _ => .bad
  | n + 1 => fun id ws S => match id with
    | 0 => runB 1 (b0 (callN n)) ws S
    | 1 => runB 1 (b1 (callN n)) ws S
    | 2 => runB 3 (b2 (callN n)) ws S
    | 3 => runB 1 (b3 (callN n)) ws S
    | 4 => runB 1 (b4 (callN n)) ws S
    | 5 => runB 2 (b5 (callN n)) ws S
    | 6 => runB 1 (b6 (callN n)) ws S
    | 7 => runB 3 (b7 (callN n)) ws S
    | 8 => runB 1 (b8 (callN n)) ws S
    | 9 => runB 2 (b9 (callN n)) ws S
    | 10 => runB 7 (b10 (callN n)) ws S
    | 11 => runB 2 (b11 (callN n)) ws S
    | 12 => runB 2 (b12 (callN n)) ws S
    | 13 => runB 1 (b13 (callN n)) ws S
    | 14 => runB 1 (b14 (callN n)) ws S
    | 15 => runB 1 (b15 (callN n)) ws S
    | 16 => runB 0 (b16 (callN n)) ws S
    | 17 => runB 0 (b17 (callN n)) ws S
    | 18 => runB 0 (b18 (callN n)) ws S
    | 19 => runB 4 (b19 (callN n)) ws S
    | 20 => runB 1 (b20 (callN n)) ws S
    | 21 => runB 1 (b21 (callN n)) ws S
    | 22 => runB 1 (b22 (callN n)) ws S
    | 23 => runB 2 (b23 (callN n)) ws S
    | 24 => runB 3 (b24 (callN n)) ws S
    | 25 => runB 1 (b25 (callN n)) ws S
    | 26 => runB 2 (b26 (callN n)) ws S
    | 27 => runB 3 (b27 (callN n)) ws S
    | 28 => if 2 ≤ n then runB 18 (b28 (callN n)) ws S else .bad
    | 29 => runB 5 (b29 (callN n)) ws S
    | 30 => runB 4 (b30 (callN n)) ws S
    | 31 => runB 4 (b31 (callN n)) ws S
    | 32 => if 2 ≤ n then runB 12 (b32 (callN n)) ws S else .bad
    | _ => .bad
/-- the defs as they are called -/
structure Tab (P : Program) (w : World) (K : PySem.W.Frag) (mg : Str → Option Value) (base : Heap) (ct : Nat → Option Addr) (n : Nat) (call : Calls) : Prop where
  o0 : Callee P w K mg base ct n "is_integer" P0 (call 0)
  o1 : Callee P w K mg base ct n "is_number" P1 (call 1)
  o2 : Callee P w K mg base ct n "begins_name" P2 (call 2)
  o3 : Callee P w K mg base ct n "is_small" P3 (call 3)
  o4 : Callee P w K mg base ct n "is_great" P4 (call 4)
  o5 : Callee P w K mg base ct n "is_name" P5 (call 5)
  o6 : Callee P w K mg base ct n "is_label" P6 (call 6)
  o7 : Callee P w K mg base ct n "is_maker" P7 (call 7)
  o8 : Callee P w K mg base ct n "wrapped" P8 (call 8)
  o9 : Callee P w K mg base ct n "_law_bag" P9 (call 9)
  o10 : Callee P w K mg base ct n "_law_take" P10 (call 10)
  o11 : Callee P w K mg base ct n "_law_some" P11 (call 11)
  o12 : Callee P w K mg base ct n "_law_alike" P12 (call 12)
  o13 : Callee P w K mg base ct n "_law_is_int" P13 (call 13)
  o14 : Callee P w K mg base ct n "_law_wrapped" P14 (call 14)
  o15 : Callee P w K mg base ct n "_law_barred" P15 (call 15)
  o16 : Callee P w K mg base ct n "_law_small_signs" P16 (call 16)
  o17 : Callee P w K mg base ct n "_law_great_signs" P17 (call 17)
  o18 : Callee P w K mg base ct n "_law_figures" P18 (call 18)
  o19 : Callee P w K mg base ct n "_law_is_spelt" P19 (call 19)
  o20 : Callee P w K mg base ct n "_law_is_small" P20 (call 20)
  o21 : Callee P w K mg base ct n "_law_is_great" P21 (call 21)
  o22 : Callee P w K mg base ct n "_law_sides" P22 (call 22)
  o23 : Callee P w K mg base ct n "_law_is_name" P23 (call 23)
  o24 : Callee P w K mg base ct n "_law_is_maker" P24 (call 24)
  o25 : Callee P w K mg base ct n "_law_is_number" P25 (call 25)
  o26 : Callee P w K mg base ct n "_law_odd" P26 (call 26)
  o27 : Callee P w K mg base ct n "_law_classes_of" P27 (call 27)
  o28 : Callee P w K mg base ct n "_law_error_rows" P28 (call 28)
  o29 : Callee P w K mg base ct n "_law_are_errors_right" P29 (call 29)
  o30 : Callee P w K mg base ct n "_law_near_name" P30 (call 30)
  o31 : Callee P w K mg base ct n "_law_is_named" P31 (call 31)
  o32 : Callee P w K mg base ct n "law" P32 (call 32)
  w_Nothing : KMake P w K mg base "Nothing"
  g_Broken : KErr P w K mg base "Broken" ["index"]
  g_Hidden : KErr P w K mg base "Hidden" ["module", "name"]
  g_NoIndex : KErr P w K mg base "NoIndex" ["index"]
  g_NoModule : KErr P w K mg base "NoModule" ["module", "name"]
  g_NoName : KErr P w K mg base "NoName" ["module", "name"]
  g_NoText : KErr P w K mg base "NoText" ["line", "column"]
  g_NoValues : KErr P w K mg base "NoValues" ["module", "name"]
  g_NotFit : KErr P w K mg base "NotFit" ["module", "name"]
  g_NotTyped : KErr P w K mg base "NotTyped" ["lot"]
  g_NotWhole : KErr P w K mg base "NotWhole" ["place", "pattern"]
  g_TooGreat : KErr P w K mg base "TooGreat" ["most"]
  g_TooMany : KErr P w K mg base "TooMany" ["most"]
  g_Twice : KErr P w K mg base "Twice" ["module", "name"]
  g_UseRing : KErr P w K mg base "UseRing" ["names"]
  g_Wrong : KErr P w K mg base "Wrong" ["place"]
  h_NotKind : KErr0 P w K mg base "NotKind"
  h_NotProgram : KErr0 P w K mg base "NotProgram"
  h_Nothing : KErr0 P w K mg base "Nothing"
  h_Stuck : KErr0 P w K mg base "Stuck"
  h_Untaken : KErr0 P w K mg base "Untaken"
  i_Broken : KIsE K mg "Broken" L_Broken
  i_Hidden : KIsE K mg "Hidden" L_Hidden
  i_NoIndex : KIsE K mg "NoIndex" L_NoIndex
  i_NoModule : KIsE K mg "NoModule" L_NoModule
  i_NoName : KIsE K mg "NoName" L_NoName
  i_NoText : KIsE K mg "NoText" L_NoText
  i_NoValues : KIsE K mg "NoValues" L_NoValues
  i_NotFit : KIsE K mg "NotFit" L_NotFit
  i_NotKind : KIsE K mg "NotKind" L_NotKind
  i_NotProgram : KIsE K mg "NotProgram" L_NotProgram
  i_NotTyped : KIsE K mg "NotTyped" L_NotTyped
  i_NotWhole : KIsE K mg "NotWhole" L_NotWhole
  i_Nothing : KIsE K mg "Nothing" L_Nothing
  i_Stuck : KIsE K mg "Stuck" L_Stuck
  i_SwornError : KIsE K mg "SwornError" L_SwornError
  i_TooGreat : KIsE K mg "TooGreat" L_TooGreat
  i_TooMany : KIsE K mg "TooMany" L_TooMany
  i_Twice : KIsE K mg "Twice" L_Twice
  i_Untaken : KIsE K mg "Untaken" L_Untaken
  i_UseRing : KIsE K mg "UseRing" L_UseRing
  i_Wrong : KIsE K mg "Wrong" L_Wrong
  i_ValueError : KIsB K "ValueError" L_ValueError
  sysm : (K.lookup sysModules).isSome = true
  c_ALL_NUMBERS : KCon K mg "ALL_NUMBERS" k_ALL_NUMBERS
  c_BARRED : KCon K mg "BARRED" k_BARRED
  c_GREATEST_NUMBER : KCon K mg "GREATEST_NUMBER" k_GREATEST_NUMBER
  c_GREAT_LETTERS : KCon K mg "GREAT_LETTERS" k_GREAT_LETTERS
  c_LEAST_NUMBER : KCon K mg "LEAST_NUMBER" k_LEAST_NUMBER
  c_LONGEST_NAME : KCon K mg "LONGEST_NAME" k_LONGEST_NAME
  c_NAME_SIGNS : KCon K mg "NAME_SIGNS" k_NAME_SIGNS
  c_SMALL_LETTERS : KCon K mg "SMALL_LETTERS" k_SMALL_LETTERS
  b_ValueError : mg "ValueError" = none
  b_abs : mg "abs" = none
  b_all : mg "all" = none
  b_bool : mg "bool" = none
  b_enumerate : mg "enumerate" = none
  b_int : mg "int" = none
  b_isinstance : mg "isinstance" = none
  b_len : mg "len" = none
  b_range : mg "range" = none
  b_repr : mg "repr" = none
  b_str : mg "str" = none
  b_tuple : mg "tuple" = none
/-! each keeps to it -/
section
variable {P : Program} {w : World} {K : PySem.W.Frag} {mg : Str → Option Value} {base : Heap} {ct : Nat → Option Addr} {n : Nat} {call : Calls} {f : Addr} {cdv : Value} {A : Around} {outer : List Env} {s : Shared} {H : Hp} {E : XK}
theorem d0 (T : Tab P w K mg base ct n call) (hr : Room n (A.deeper (envOfC "is_integer" (defScope st0) s.heap.objs.size f cdv))) (gd : A.guards = some []) (hS : FnScope N0 P0 (defScope st0) := sc0) :
    PSs (bodyX P w K mg base N0 "is_integer" (defScope st0) f cdv A outer s H E) (defBody st0) (tS ⟨K, ct⟩ NX (b0 call)) := by
  unfold b0
  exact (s_one (s_ret (i_and (i_isiA "int" (by decide) (by rfl) T.b_isinstance (by rfl) T.b_int (by decide +kernel) (iv 0)) (i_one (i_not (i_isiA "bool" (by decide) (by rfl) T.b_isinstance (by rfl) T.b_bool (by decide +kernel) (iv 0)))))))
theorem d1 (T : Tab P w K mg base ct n call) (hr : Room n (A.deeper (envOfC "is_number" (defScope st1) s.heap.objs.size f cdv))) (gd : A.guards = some []) (hS : FnScope N1 P1 (defScope st1) := sc1) :
    PSs (bodyX P w K mg base N1 "is_number" (defScope st1) f cdv A outer s H E) (defBody st1) (tS ⟨K, ct⟩ NX (b1 call)) := by
  unfold b1
  exact (s_one (s_ret (i_and (cCall (T.o0) hr gd (ac (iv 0) a0)) (i_one (i_chain sim_le sim_le (kCon T.c_LEAST_NUMBER) (iv 0) (kCon T.c_GREATEST_NUMBER))))))
theorem d2 (T : Tab P w K mg base ct n call) (hr : Room n (A.deeper (envOfC "begins_name" (defScope st2) s.heap.objs.size f cdv))) (gd : A.guards = some []) (hS : FnScope N2 P2 (defScope st2) := sc2) :
    PSs (bodyX P w K mg base N2 "begins_name" (defScope st2) f cdv A outer s H E) (defBody st2) (tS ⟨K, ct⟩ NX (b2 call)) := by
  unfold b2
  exact (s_cons (s_if ((w_or (t_not (t_tru (i_isiA "str" (by decide) (by rfl) T.b_isinstance (by rfl) T.b_str (by decide +kernel) (iv 0)))) (w_or1 (t_not (t_chain sim_le sim_le ii (i_callB c_len (by rfl) T.b_len (by decide +kernel) (ac (iv 0) a0)) (kCon T.c_LONGEST_NAME)))))).pt (s_one (s_ret ib)) s_nil) (s_one (s_ret (i_and (i_cmp sim_inA (i_ix (iv 0) ii) (iv 1) (by rfl)) (i_one (i_callB (c_all rfl) (by rfl) T.b_all (by decide +kernel) (ac (i_lc (own := [("sign", 2)]) rfl hS.nd (w_str (iv 0)) (blk_of (by kernel_rfl)) (fun _ _ _ _ _ => (gb_name 2 hS.nd rfl (by decide))) (fun _ _ _ _ _ => ts_nil) (fun _ _ _ _ _ => (i_cmp sim_inA (iv 2) (kCon T.c_NAME_SIGNS) (by rfl)))) a0)))))))
theorem d3 (T : Tab P w K mg base ct n call) (hr : Room n (A.deeper (envOfC "is_small" (defScope st3) s.heap.objs.size f cdv))) (gd : A.guards = some []) (hS : FnScope N3 P3 (defScope st3) := sc3) :
    PSs (bodyX P w K mg base N3 "is_small" (defScope st3) f cdv A outer s H E) (defBody st3) (tS ⟨K, ct⟩ NX (b3 call)) := by
  unfold b3
  exact (s_one (s_ret (i_and (cCall (T.o2) hr gd (ac (iv 0) (ac (kCon T.c_SMALL_LETTERS) a0))) (i_one (i_cmp sim_notInA (iv 0) (kCon T.c_BARRED) (by rfl))))))
theorem d4 (T : Tab P w K mg base ct n call) (hr : Room n (A.deeper (envOfC "is_great" (defScope st4) s.heap.objs.size f cdv))) (gd : A.guards = some []) (hS : FnScope N4 P4 (defScope st4) := sc4) :
    PSs (bodyX P w K mg base N4 "is_great" (defScope st4) f cdv A outer s H E) (defBody st4) (tS ⟨K, ct⟩ NX (b4 call)) := by
  unfold b4
  exact (s_one (s_ret (cCall (T.o2) hr gd (ac (iv 0) (ac (kCon T.c_GREAT_LETTERS) a0)))))
theorem d5 (T : Tab P w K mg base ct n call) (hr : Room n (A.deeper (envOfC "is_name" (defScope st5) s.heap.objs.size f cdv))) (gd : A.guards = some []) (hS : FnScope N5 P5 (defScope st5) := sc5) :
    PSs (bodyX P w K mg base N5 "is_name" (defScope st5) f cdv A outer s H E) (defBody st5) (tS ⟨K, ct⟩ NX (b5 call)) := by
  unfold b5
  exact (s_cons (s_if (t_not (t_tru (i_isiA "str" (by decide) (by rfl) T.b_isinstance (by rfl) T.b_str (by decide +kernel) (iv 0)))) (s_one (s_ret ib)) s_nil) (s_cons (s_set 1 hS.nd (i_methS PySem.F.slot_str_split PySem.F.type_str_split m_split (iv 0) (ac is a0))) (s_one (s_ret (i_and (cCall (T.o3) hr gd (ac (i_ix (iv 1) (i_neg ii)) a0)) (i_one (i_or (i_cmp (sim_eq (hu64 hr)) (i_callB c_len (by rfl) T.b_len (by decide +kernel) (ac (iv 1) a0)) ii (by rfl)) (i_one (i_and (i_cmp (sim_eq (hu64 hr)) (i_callB c_len (by rfl) T.b_len (by decide +kernel) (ac (iv 1) a0)) ii (by rfl)) (i_one (cCall (T.o4) hr gd (ac (i_ix (iv 1) ii) a0))))))))))))
theorem d6 (T : Tab P w K mg base ct n call) (hr : Room n (A.deeper (envOfC "is_label" (defScope st6) s.heap.objs.size f cdv))) (gd : A.guards = some []) (hS : FnScope N6 P6 (defScope st6) := sc6) :
    PSs (bodyX P w K mg base N6 "is_label" (defScope st6) f cdv A outer s H E) (defBody st6) (tS ⟨K, ct⟩ NX (b6 call)) := by
  unfold b6
  exact (s_one (s_ret (cCall (T.o3) hr gd (ac (iv 0) a0))))
theorem d7 (T : Tab P w K mg base ct n call) (hr : Room n (A.deeper (envOfC "is_maker" (defScope st7) s.heap.objs.size f cdv))) (gd : A.guards = some []) (hS : FnScope N7 P7 (defScope st7) := sc7) :
    PSs (bodyX P w K mg base N7 "is_maker" (defScope st7) f cdv A outer s H E) (defBody st7) (tS ⟨K, ct⟩ NX (b7 call)) := by
  unfold b7
  exact (s_cons (s_if (t_not (t_tru (i_isiA "str" (by decide) (by rfl) T.b_isinstance (by rfl) T.b_str (by decide +kernel) (iv 0)))) (s_one (s_ret ib)) s_nil) (s_cons (s_set 1 hS.nd (i_methS PySem.F.slot_str_split PySem.F.type_str_split m_split (iv 0) (ac is a0))) (s_one (s_ret (i_and (i_cmp sim_le (i_callB c_len (by rfl) T.b_len (by decide +kernel) (ac (iv 1) a0)) ii (by rfl)) (i_one (i_callB (c_all rfl) (by rfl) T.b_all (by decide +kernel) (ac (i_lc (own := [("side", 2)]) rfl hS.nd (w_seq (iv 1)) (blk_of (by kernel_rfl)) (fun _ _ _ _ _ => (gb_name 2 hS.nd rfl (by decide))) (fun _ _ _ _ _ => ts_nil) (fun _ _ _ _ _ => (cCall (T.o4) hr gd (ac (iv 2) a0)))) a0))))))))
theorem d8 (T : Tab P w K mg base ct n call) (hr : Room n (A.deeper (envOfC "wrapped" (defScope st8) s.heap.objs.size f cdv))) (gd : A.guards = some []) (hS : FnScope N8 P8 (defScope st8) := sc8) :
    PSs (bodyX P w K mg base N8 "wrapped" (defScope st8) f cdv A outer s H E) (defBody st8) (tS ⟨K, ct⟩ NX (b8 call)) := by
  unfold b8
  exact (s_one (s_ret (i_op sim_add (i_op sim_mod (i_op sim_sub (iv 0) (kCon T.c_LEAST_NUMBER)) (kCon T.c_ALL_NUMBERS)) (kCon T.c_LEAST_NUMBER))))
theorem d9 (T : Tab P w K mg base ct n call) (hr : Room n (A.deeper (envOfC "_law_bag" (defScope st9) s.heap.objs.size f cdv))) (gd : A.guards = some []) (hS : FnScope N9 P9 (defScope st9) := sc9) :
    PSs (bodyX P w K mg base N9 "_law_bag" (defScope st9) f cdv A outer s H E) (defBody st9) (tS ⟨K, ct⟩ NX (b9 call)) := by
  unfold b9
  exact (s_one (s_ret (i_live (ac ii (ac ii (ac ii (ac (i_lc (own := [("cell", 1)]) rfl hS.nd (w_seq (i_slA (iv 0) o_none (o_some ii))) (blk_of (by kernel_rfl)) (fun _ _ _ _ _ => (gb_name 1 hS.nd rfl (by decide))) (fun _ _ _ _ _ => ts_nil) (fun _ _ _ _ _ => (i_callB c_abs (by rfl) T.b_abs (by decide +kernel) (ac (iv 1) a0)))) a0)))))))
theorem d10 (T : Tab P w K mg base ct n call) (hr : Room n (A.deeper (envOfC "_law_take" (defScope st10) s.heap.objs.size f cdv))) (gd : A.guards = some []) (hS : FnScope N10 P10 (defScope st10) := sc10) :
    PSs (bodyX P w K mg base N10 "_law_take" (defScope st10) f cdv A outer s H E) (defBody st10) (tS ⟨K, ct⟩ NX (b10 call)) := by
  unfold b10
  exact (s_cons (s_if (t_cmp (sim_eq (hu64 hr)) (i_ix (iv 0) ii) ii (by rfl)) (s_cons (s_set 2 hS.nd (i_ix (i_op sim_add (i_slA (i_ix (iv 0) ii) (o_some (i_ix (iv 0) ii)) o_none) (i_lst (ac ii a0))) ii)) (s_cons (s_augAt sim_iaddI (iv 0) ii ii) (s_cons (s_if (t_cmp sim_ge (iv 2) (i_op sim_pow ii ii) (by rfl)) (s_one (s_store (iv 2) (iv 0) ii)) s_nil) (s_cons (s_set 3 hS.nd (i_op sim_add (i_op sim_add (i_op sim_mulA (i_ix (iv 0) ii) ii) (i_op sim_mod (i_callT c_intA (by rfl) T.b_int (by decide +kernel) (ac (iv 2) a0)) ii)) (i_op sim_mulA ii (i_ix (iv 0) ii)))) (s_one (s_store (i_op sim_mod (i_callT c_intA (by rfl) T.b_int (by decide +kernel) (ac (iv 3) a0)) ii) (iv 0) ii)))))) s_nil) (s_cons (s_if (t_cmp sim_gt (i_ix (iv 0) ii) ii (by rfl)) (s_cons (s_set 4 hS.nd (i_op sim_mod (i_callT c_intA (by rfl) T.b_int (by decide +kernel) (ac (i_ix (iv 0) ii) a0)) (iv 1))) (s_cons (s_store (i_op sim_div (i_callT c_intA (by rfl) T.b_int (by decide +kernel) (ac (i_ix (iv 0) ii) a0)) (iv 1)) (iv 0) ii) (s_one (s_ret (iv 4))))) s_nil) (s_cons (s_set 5 hS.nd (i_op sim_mod (i_callT c_intA (by rfl) T.b_int (by decide +kernel) (ac (i_op sim_mulA (i_op sim_add (i_ix (iv 0) ii) ii) ii) a0)) ii)) (s_cons (s_set 6 hS.nd (i_op sim_mod (i_callT c_intA (by rfl) T.b_int (by decide +kernel) (ac (i_op sim_mulA (i_op sim_mod (i_callT c_intA (by rfl) T.b_int (by decide +kernel) (ac (i_op sim_mulA (iv 5) (iv 5)) a0)) ii) ii) a0)) ii)) (s_one (s_ret (i_op sim_mod (i_callT c_intA (by rfl) T.b_int (by decide +kernel) (ac (i_op sim_div (iv 6) ii) a0)) (iv 1))))))))
theorem d11 (T : Tab P w K mg base ct n call) (hr : Room n (A.deeper (envOfC "_law_some" (defScope st11) s.heap.objs.size f cdv))) (gd : A.guards = some []) (hS : FnScope N11 P11 (defScope st11) := sc11) :
    PSs (bodyX P w K mg base N11 "_law_some" (defScope st11) f cdv A outer s H E) (defBody st11) (tS ⟨K, ct⟩ NX (b11 call)) := by
  unfold b11
  exact (s_one (s_ret (i_ix (iv 1) (cCall (T.o10) hr gd (ac (iv 0) (ac (i_callB c_len (by rfl) T.b_len (by decide +kernel) (ac (iv 1) a0)) a0))))))
theorem d12 (T : Tab P w K mg base ct n call) (hr : Room n (A.deeper (envOfC "_law_alike" (defScope st12) s.heap.objs.size f cdv))) (gd : A.guards = some []) (hS : FnScope N12 P12 (defScope st12) := sc12) :
    PSs (bodyX P w K mg base N12 "_law_alike" (defScope st12) f cdv A outer s H E) (defBody st12) (tS ⟨K, ct⟩ NX (b12 call)) := by
  unfold b12
  exact (s_one (s_ret (i_and (i_cmp (sim_eqA (hu64 hr)) (iv 0) (iv 1) (by rfl)) (i_one (i_cmp (sim_eqA (hu64 hr)) (i_callB (c_reprA T.sysm gd (hu65 hr)) (by rfl) T.b_repr (by decide +kernel) (ac (iv 0) a0)) (i_callB (c_reprA T.sysm gd (hu65 hr)) (by rfl) T.b_repr (by decide +kernel) (ac (iv 1) a0)) (by rfl))))))
theorem d13 (T : Tab P w K mg base ct n call) (hr : Room n (A.deeper (envOfC "_law_is_int" (defScope st13) s.heap.objs.size f cdv))) (gd : A.guards = some []) (hS : FnScope N13 P13 (defScope st13) := sc13) :
    PSs (bodyX P w K mg base N13 "_law_is_int" (defScope st13) f cdv A outer s H E) (defBody st13) (tS ⟨K, ct⟩ NX (b13 call)) := by
  unfold b13
  exact (s_one (s_ret (i_and (i_isiA "int" (by decide) (by rfl) T.b_isinstance (by rfl) T.b_int (by decide +kernel) (iv 0)) (i_one (i_not (i_isiA "bool" (by decide) (by rfl) T.b_isinstance (by rfl) T.b_bool (by decide +kernel) (iv 0)))))))
theorem d14 (T : Tab P w K mg base ct n call) (hr : Room n (A.deeper (envOfC "_law_wrapped" (defScope st14) s.heap.objs.size f cdv))) (gd : A.guards = some []) (hS : FnScope N14 P14 (defScope st14) := sc14) :
    PSs (bodyX P w K mg base N14 "_law_wrapped" (defScope st14) f cdv A outer s H E) (defBody st14) (tS ⟨K, ct⟩ NX (b14 call)) := by
  unfold b14
  exact (s_one (s_ret (i_op sim_sub (i_op sim_mod (i_callT c_intA (by rfl) T.b_int (by decide +kernel) (ac (i_op sim_add (iv 0) ii) a0)) ii) ii)))
theorem d15 (T : Tab P w K mg base ct n call) (hr : Room n (A.deeper (envOfC "_law_barred" (defScope st15) s.heap.objs.size f cdv))) (gd : A.guards = some []) (hS : FnScope N15 P15 (defScope st15) := sc15) :
    PSs (bodyX P w K mg base N15 "_law_barred" (defScope st15) f cdv A outer s H E) (defBody st15) (tS ⟨K, ct⟩ NX (b15 call)) := by
  unfold b15
  exact (s_cons (s_set 0 hS.nd (i_lst (ac is (ac is (ac is (ac is (ac is (ac is (ac is (ac is (ac is (ac is (ac is (ac is (ac is (ac is a0)))))))))))))))) (s_one (s_ret (i_op sim_add (iv 0) (i_lst (ac is (ac is (ac is (ac is (ac is (ac is (ac is a0))))))))))))
theorem d16 (T : Tab P w K mg base ct n call) (hr : Room n (A.deeper (envOfC "_law_small_signs" (defScope st16) s.heap.objs.size f cdv))) (gd : A.guards = some []) (hS : FnScope N16 P16 (defScope st16) := sc16) :
    PSs (bodyX P w K mg base N16 "_law_small_signs" (defScope st16) f cdv A outer s H E) (defBody st16) (tS ⟨K, ct⟩ NX (b16 call)) := by
  unfold b16
  exact (s_one (s_ret is))
theorem d17 (T : Tab P w K mg base ct n call) (hr : Room n (A.deeper (envOfC "_law_great_signs" (defScope st17) s.heap.objs.size f cdv))) (gd : A.guards = some []) (hS : FnScope N17 P17 (defScope st17) := sc17) :
    PSs (bodyX P w K mg base N17 "_law_great_signs" (defScope st17) f cdv A outer s H E) (defBody st17) (tS ⟨K, ct⟩ NX (b17 call)) := by
  unfold b17
  exact (s_one (s_ret is))
theorem d18 (T : Tab P w K mg base ct n call) (hr : Room n (A.deeper (envOfC "_law_figures" (defScope st18) s.heap.objs.size f cdv))) (gd : A.guards = some []) (hS : FnScope N18 P18 (defScope st18) := sc18) :
    PSs (bodyX P w K mg base N18 "_law_figures" (defScope st18) f cdv A outer s H E) (defBody st18) (tS ⟨K, ct⟩ NX (b18 call)) := by
  unfold b18
  exact (s_one (s_ret is))
theorem d19 (T : Tab P w K mg base ct n call) (hr : Room n (A.deeper (envOfC "_law_is_spelt" (defScope st19) s.heap.objs.size f cdv))) (gd : A.guards = some []) (hS : FnScope N19 P19 (defScope st19) := sc19) :
    PSs (bodyX P w K mg base N19 "_law_is_spelt" (defScope st19) f cdv A outer s H E) (defBody st19) (tS ⟨K, ct⟩ NX (b19 call)) := by
  unfold b19
  exact (s_cons (s_if ((w_or (t_not (t_tru (i_isiA "str" (by decide) (by rfl) T.b_isinstance (by rfl) T.b_str (by decide +kernel) (iv 0)))) (w_or (t_not (t_chain sim_le sim_le ii (i_callB c_len (by rfl) T.b_len (by decide +kernel) (ac (iv 0) a0)) ii)) (w_or1 (t_cmp sim_notInA (i_ix (iv 0) ii) (iv 1) (by rfl)))))).pt (s_one (s_ret ib)) s_nil) (s_cons (s_set 2 hS.nd (i_op sim_add (i_op sim_add (i_op sim_add (cCall0 (T.o16) hr gd) (cCall0 (T.o17) hr gd)) (cCall0 (T.o18) hr gd)) is)) (s_one (s_ret (i_cmp (sim_eq (hu64 hr)) (i_lc (own := [("sign", 3)]) rfl hS.nd (w_str (iv 0)) (blk_of (by kernel_rfl)) (fun _ _ _ _ _ => (gb_name 3 hS.nd rfl (by decide))) (fun _ _ _ _ _ => (ts_one (t_cmp sim_notInA (iv 3) (iv 2) (by rfl)))) (fun _ _ _ _ _ => (iv 3))) (i_lst a0) (by rfl))))))
theorem d20 (T : Tab P w K mg base ct n call) (hr : Room n (A.deeper (envOfC "_law_is_small" (defScope st20) s.heap.objs.size f cdv))) (gd : A.guards = some []) (hS : FnScope N20 P20 (defScope st20) := sc20) :
    PSs (bodyX P w K mg base N20 "_law_is_small" (defScope st20) f cdv A outer s H E) (defBody st20) (tS ⟨K, ct⟩ NX (b20 call)) := by
  unfold b20
  exact (s_one (s_ret (i_and (cCall (T.o19) hr gd (ac (iv 0) (ac (cCall0 (T.o16) hr gd) a0))) (i_one (i_cmp sim_notInA (iv 0) (cCall0 (T.o15) hr gd) (by rfl))))))
theorem d21 (T : Tab P w K mg base ct n call) (hr : Room n (A.deeper (envOfC "_law_is_great" (defScope st21) s.heap.objs.size f cdv))) (gd : A.guards = some []) (hS : FnScope N21 P21 (defScope st21) := sc21) :
    PSs (bodyX P w K mg base N21 "_law_is_great" (defScope st21) f cdv A outer s H E) (defBody st21) (tS ⟨K, ct⟩ NX (b21 call)) := by
  unfold b21
  exact (s_one (s_ret (cCall (T.o19) hr gd (ac (iv 0) (ac (cCall0 (T.o17) hr gd) a0)))))
theorem d22 (T : Tab P w K mg base ct n call) (hr : Room n (A.deeper (envOfC "_law_sides" (defScope st22) s.heap.objs.size f cdv))) (gd : A.guards = some []) (hS : FnScope N22 P22 (defScope st22) := sc22) :
    PSs (bodyX P w K mg base N22 "_law_sides" (defScope st22) f cdv A outer s H E) (defBody st22) (tS ⟨K, ct⟩ NX (b22 call)) := by
  unfold b22
  exact (s_one (s_ret (i_ife (t_tru (i_isiA "str" (by decide) (by rfl) T.b_isinstance (by rfl) T.b_str (by decide +kernel) (iv 0))) (i_callT c_tupleA (by rfl) T.b_tuple (by decide +kernel) (ac (i_methS PySem.F.slot_str_split PySem.F.type_str_split m_split (iv 0) (ac is a0)) a0)) (i_tup a0))))
theorem d23 (T : Tab P w K mg base ct n call) (hr : Room n (A.deeper (envOfC "_law_is_name" (defScope st23) s.heap.objs.size f cdv))) (gd : A.guards = some []) (hS : FnScope N23 P23 (defScope st23) := sc23) :
    PSs (bodyX P w K mg base N23 "_law_is_name" (defScope st23) f cdv A outer s H E) (defBody st23) (tS ⟨K, ct⟩ NX (b23 call)) := by
  unfold b23
  exact (s_cons (s_set 1 hS.nd (cCall (T.o22) hr gd (ac (iv 0) a0))) (s_one (s_ret (i_or (cCall (T.o20) hr gd (ac (iv 0) a0)) (i_one (i_and (i_cmp (sim_eq (hu64 hr)) (i_callB c_len (by rfl) T.b_len (by decide +kernel) (ac (iv 1) a0)) ii (by rfl)) (i_and (cCall (T.o21) hr gd (ac (i_ix (iv 1) ii) a0)) (i_one (cCall (T.o20) hr gd (ac (i_ix (iv 1) ii) a0))))))))))
theorem d24 (T : Tab P w K mg base ct n call) (hr : Room n (A.deeper (envOfC "_law_is_maker" (defScope st24) s.heap.objs.size f cdv))) (gd : A.guards = some []) (hS : FnScope N24 P24 (defScope st24) := sc24) :
    PSs (bodyX P w K mg base N24 "_law_is_maker" (defScope st24) f cdv A outer s H E) (defBody st24) (tS ⟨K, ct⟩ NX (b24 call)) := by
  unfold b24
  exact (s_cons (s_set 1 hS.nd (cCall (T.o22) hr gd (ac (iv 0) a0))) (s_one (s_ret (i_and (i_cmp sim_inA (i_callB c_len (by rfl) T.b_len (by decide +kernel) (ac (iv 1) a0)) (i_tup (ac ii (ac ii a0))) (by rfl)) (i_one (i_cmp (sim_eq (hu64 hr)) (i_lc (own := [("side", 2)]) rfl hS.nd (w_seq (iv 1)) (blk_of (by kernel_rfl)) (fun _ _ _ _ _ => (gb_name 2 hS.nd rfl (by decide))) (fun _ _ _ _ _ => (ts_one (t_not (t_tru (cCall (T.o21) hr gd (ac (iv 2) a0)))))) (fun _ _ _ _ _ => (iv 2))) (i_lst a0) (by rfl)))))))
theorem d25 (T : Tab P w K mg base ct n call) (hr : Room n (A.deeper (envOfC "_law_is_number" (defScope st25) s.heap.objs.size f cdv))) (gd : A.guards = some []) (hS : FnScope N25 P25 (defScope st25) := sc25) :
    PSs (bodyX P w K mg base N25 "_law_is_number" (defScope st25) f cdv A outer s H E) (defBody st25) (tS ⟨K, ct⟩ NX (b25 call)) := by
  unfold b25
  exact (s_one (s_ret (i_and (cCall (T.o13) hr gd (ac (iv 0) a0)) (i_one (i_chain sim_le sim_le (i_neg ii) (iv 0) ii)))))
theorem d26 (T : Tab P w K mg base ct n call) (hr : Room n (A.deeper (envOfC "_law_odd" (defScope st26) s.heap.objs.size f cdv))) (gd : A.guards = some []) (hS : FnScope N26 P26 (defScope st26) := sc26) :
    PSs (bodyX P w K mg base N26 "_law_odd" (defScope st26) f cdv A outer s H E) (defBody st26) (tS ⟨K, ct⟩ NX (b26 call)) := by
  unfold b26
  exact (s_cons (s_set 1 hS.nd (i_lst (ac inn (ac ib (ac ib (ac ii (ac ii (ac (i_neg ii) (ac (i_op sim_pow ii ii) (ac is (ac is (ac is (ac is (ac is (ac is (ac is (ac (i_tup a0) (ac (i_lst a0) (ac i_dct0E (ac (i_tup (ac ii a0)) (ac (i_lst (ac ii a0)) a0))))))))))))))))))))) (s_cons (s_set 1 hS.nd (i_op sim_add (iv 1) (i_lst (ac (i_tup (ac is a0)) (ac (i_tup (ac is (ac ii a0))) (ac (i_tup (ac is (ac ib a0))) (ac (i_tup (ac is (ac ii a0))) (ac (i_tup (ac is a0)) (ac (i_lst (ac is a0)) (ac (i_tup (ac is (ac ii a0))) (ac (i_tup (ac is (ac (i_neg ii) a0))) a0))))))))))) (s_cons (s_set 1 hS.nd (i_op sim_add (iv 1) (i_lst (ac (i_tup (ac is (ac (i_tup (ac (i_tup (ac is (ac ii a0))) a0)) a0))) (ac (i_tup (ac is (ac is a0))) (ac (i_tup (ac is (ac is a0))) (ac (i_tup (ac is (ac is a0))) (ac (i_tup (ac is (ac is (ac (i_tup a0) a0)))) a0)))))))) (s_cons (s_set 1 hS.nd (i_op sim_add (iv 1) (i_lst (ac (i_tup (ac is (ac (i_tup a0) a0))) (ac (i_tup (ac is (ac ii a0))) (ac (i_tup (ac is (ac is (ac inn a0)))) (ac (i_tup (ac is (ac (i_tup a0) (ac (i_tup (ac is (ac ii a0))) a0)))) (ac (i_tup (ac is (ac is (ac ii (ac ii a0))))) a0)))))))) (s_one (s_ret (cCall (T.o11) hr gd (ac (iv 0) (ac (i_op sim_add (iv 1) (i_lst (ac i_dct1E (ac (i_tup (ac (i_tup a0) a0)) a0)))) a0)))))))))
theorem d27 (T : Tab P w K mg base ct n call) (hr : Room n (A.deeper (envOfC "_law_classes_of" (defScope st27) s.heap.objs.size f cdv))) (gd : A.guards = some []) (hS : FnScope N27 P27 (defScope st27) := sc27) :
    PSs (bodyX P w K mg base N27 "_law_classes_of" (defScope st27) f cdv A outer s H E) (defBody st27) (tS ⟨K, ct⟩ NX (b27 call)) := by
  unfold b27
  exact (s_cons (s_set 1 hS.nd (i_live (ac (i_isE T.i_Broken (by rfl) T.b_isinstance (by rfl) (iv 0)) (ac (i_isE T.i_Hidden (by rfl) T.b_isinstance (by rfl) (iv 0)) (ac (i_isE T.i_NoIndex (by rfl) T.b_isinstance (by rfl) (iv 0)) a0))))) (s_cons (s_expr (i_meth PySem.F.slot_list_extend PySem.F.type_list_extend m_extendA (iv 1) (ac (i_lst (ac (i_isE T.i_NoModule (by rfl) T.b_isinstance (by rfl) (iv 0)) (ac (i_isE T.i_NoName (by rfl) T.b_isinstance (by rfl) (iv 0)) (ac (i_isE T.i_NoText (by rfl) T.b_isinstance (by rfl) (iv 0)) a0)))) a0))) (s_cons (s_expr (i_meth PySem.F.slot_list_append PySem.F.type_list_append m_append (iv 1) (ac (i_isE T.i_NoValues (by rfl) T.b_isinstance (by rfl) (iv 0)) a0))) (s_cons (s_expr (i_meth PySem.F.slot_list_extend PySem.F.type_list_extend m_extendA (iv 1) (ac (i_lst (ac (i_isE T.i_NotFit (by rfl) T.b_isinstance (by rfl) (iv 0)) (ac (i_isE T.i_NotKind (by rfl) T.b_isinstance (by rfl) (iv 0)) (ac (i_isE T.i_NotProgram (by rfl) T.b_isinstance (by rfl) (iv 0)) a0)))) a0))) (s_cons (s_expr (i_meth PySem.F.slot_list_extend PySem.F.type_list_extend m_extendA (iv 1) (ac (i_lst (ac (i_isE T.i_NotTyped (by rfl) T.b_isinstance (by rfl) (iv 0)) (ac (i_isE T.i_NotWhole (by rfl) T.b_isinstance (by rfl) (iv 0)) (ac (i_isE T.i_Nothing (by rfl) T.b_isinstance (by rfl) (iv 0)) a0)))) a0))) (s_cons (s_expr (i_meth PySem.F.slot_list_extend PySem.F.type_list_extend m_extendA (iv 1) (ac (i_lst (ac (i_isE T.i_Stuck (by rfl) T.b_isinstance (by rfl) (iv 0)) (ac (i_isE T.i_TooGreat (by rfl) T.b_isinstance (by rfl) (iv 0)) (ac (i_isE T.i_TooMany (by rfl) T.b_isinstance (by rfl) (iv 0)) a0)))) a0))) (s_cons (s_expr (i_meth PySem.F.slot_list_extend PySem.F.type_list_extend m_extendA (iv 1) (ac (i_lst (ac (i_isE T.i_Twice (by rfl) T.b_isinstance (by rfl) (iv 0)) (ac (i_isE T.i_Untaken (by rfl) T.b_isinstance (by rfl) (iv 0)) a0))) a0))) (s_cons (s_expr (i_meth PySem.F.slot_list_extend PySem.F.type_list_extend m_extendA (iv 1) (ac (i_lst (ac (i_isE T.i_UseRing (by rfl) T.b_isinstance (by rfl) (iv 0)) (ac (i_isE T.i_Wrong (by rfl) T.b_isinstance (by rfl) (iv 0)) a0))) a0))) (s_one (s_ret (i_lc (own := [("k", 2)]) rfl hS.nd (w_range1 (by rfl) T.b_range (ac ii a0)) (blk_of (by kernel_rfl)) (fun _ _ _ _ _ => (gb_name 2 hS.nd rfl (by decide))) (fun _ _ _ _ _ => (ts_one (t_tru (i_ix (iv 1) (iv 2))))) (fun _ _ _ _ _ => (iv 2)))))))))))))
theorem d28 (T : Tab P w K mg base ct n call) (h2 : 2 ≤ n) (hr : Room n (A.deeper (envOfC "_law_error_rows" (defScope st28) s.heap.objs.size f cdv))) (gd : A.guards = some []) (hS : FnScope N28 P28 (defScope st28) := sc28) :
    PSs (bodyX P w K mg base N28 "_law_error_rows" (defScope st28) f cdv A outer s H E) (defBody st28) (tS ⟨K, ct⟩ NX (b28 call)) := by
  unfold b28
  exact (s_cons (s_asg (i_tup (ac (i_er T.g_Broken (room_two h2 hr) (ac (iv 0) a0)) (ac (i_er T.g_Hidden (room_two h2 hr) (ac (iv 0) (ac (iv 1) a0))) (ac (i_er T.g_NoIndex (room_two h2 hr) (ac (iv 0) a0)) (ac (i_er T.g_NoModule (room_two h2 hr) (ac (iv 0) (ac (iv 1) a0))) a0))))) (g_tup rfl (gs_cons (g_name 2 hS.nd ) (gs_cons (g_name 3 hS.nd ) (gs_cons (g_name 4 hS.nd ) (gs_cons (g_name 5 hS.nd ) gs_nil)))))) (s_cons (s_asg (i_tup (ac (i_er T.g_NoName (room_two h2 hr) (ac (iv 0) (ac (iv 1) a0))) (ac (i_er T.g_NoText (room_two h2 hr) (ac (iv 0) (ac (iv 1) a0))) (ac (i_er T.g_NoValues (room_two h2 hr) (ac (iv 0) (ac (iv 1) a0))) (ac (i_er T.g_NotFit (room_two h2 hr) (ac (iv 0) (ac (iv 1) a0))) a0))))) (g_tup rfl (gs_cons (g_name 6 hS.nd ) (gs_cons (g_name 7 hS.nd ) (gs_cons (g_name 8 hS.nd ) (gs_cons (g_name 9 hS.nd ) gs_nil)))))) (s_cons (s_asg (i_tup (ac (i_er T.g_NotTyped (room_two h2 hr) (ac (iv 0) a0)) (ac (i_er T.g_NotWhole (room_two h2 hr) (ac (iv 0) (ac (iv 1) a0))) (ac (i_er T.g_TooGreat (room_two h2 hr) (ac (iv 0) a0)) (ac (i_er T.g_TooMany (room_two h2 hr) (ac (iv 0) a0)) a0))))) (g_tup rfl (gs_cons (g_name 10 hS.nd ) (gs_cons (g_name 11 hS.nd ) (gs_cons (g_name 12 hS.nd ) (gs_cons (g_name 13 hS.nd ) gs_nil)))))) (s_cons (s_par3 14 15 16 rfl hS.nd (by decide) (by decide) (by decide) (ac (i_er T.g_Twice (room_two h2 hr) (ac (iv 0) (ac (iv 1) a0))) (ac (i_er T.g_UseRing (room_two h2 hr) (ac (iv 0) a0)) (ac (i_er T.g_Wrong (room_two h2 hr) (ac (iv 0) a0)) a0)))) (s_cons (s_set 17 hS.nd (i_liveW (ac (i_tup (ac (iv 2) (ac (i_lstW (ac (i_erf T.g_Broken (by decide) (iv 2)) a0)) a0))) (ac (i_tup (ac (iv 3) (ac (i_lstW (ac (i_erf T.g_Hidden (by decide) (iv 3)) (ac (i_erf T.g_Hidden (by decide) (iv 3)) a0))) a0))) (ac (i_tup (ac (iv 4) (ac (i_lstW (ac (i_erf T.g_NoIndex (by decide) (iv 4)) a0)) a0))) a0))))) (s_cons (s_expr (i_methW PySem.F.slot_list_extend PySem.F.type_list_extend m_extW (iv 17) (ac (i_lstW (ac (i_tup (ac (iv 5) (ac (i_lstW (ac (i_erf T.g_NoModule (by decide) (iv 5)) (ac (i_erf T.g_NoModule (by decide) (iv 5)) a0))) a0))) (ac (i_tup (ac (iv 6) (ac (i_lstW (ac (i_erf T.g_NoName (by decide) (iv 6)) (ac (i_erf T.g_NoName (by decide) (iv 6)) a0))) a0))) a0))) a0))) (s_cons (s_expr (i_methW PySem.F.slot_list_extend PySem.F.type_list_extend m_extW (iv 17) (ac (i_lstW (ac (i_tup (ac (iv 7) (ac (i_lstW (ac (i_erf T.g_NoText (by decide) (iv 7)) (ac (i_erf T.g_NoText (by decide) (iv 7)) a0))) a0))) (ac (i_tup (ac (iv 8) (ac (i_lstW (ac (i_erf T.g_NoValues (by decide) (iv 8)) (ac (i_erf T.g_NoValues (by decide) (iv 8)) a0))) a0))) a0))) a0))) (s_cons (s_expr (i_methW PySem.F.slot_list_extend PySem.F.type_list_extend m_extW (iv 17) (ac (i_lstW (ac (i_tup (ac (iv 9) (ac (i_lstW (ac (i_erf T.g_NotFit (by decide) (iv 9)) (ac (i_erf T.g_NotFit (by decide) (iv 9)) a0))) a0))) (ac (i_tup (ac (i_er0 T.h_NotKind (room_two h2 hr)) (ac (i_lstW a0) a0))) (ac (i_tup (ac (i_er0 T.h_NotProgram (room_two h2 hr)) (ac (i_lstW a0) a0))) (ac (i_tup (ac (iv 10) (ac (i_lstW (ac (i_erf T.g_NotTyped (by decide) (iv 10)) a0)) a0))) a0))))) a0))) (s_cons (s_expr (i_methW PySem.F.slot_list_extend PySem.F.type_list_extend m_extW (iv 17) (ac (i_lstW (ac (i_tup (ac (iv 11) (ac (i_lstW (ac (i_erf T.g_NotWhole (by decide) (iv 11)) (ac (i_erf T.g_NotWhole (by decide) (iv 11)) a0))) a0))) (ac (i_tup (ac (i_er0 T.h_Nothing (room_two h2 hr)) (ac (i_lstW a0) a0))) (ac (i_tup (ac (i_er0 T.h_Stuck (room_two h2 hr)) (ac (i_lstW a0) a0))) (ac (i_tup (ac (iv 12) (ac (i_lstW (ac (i_erf T.g_TooGreat (by decide) (iv 12)) a0)) a0))) a0))))) a0))) (s_cons (s_expr (i_methW PySem.F.slot_list_extend PySem.F.type_list_extend m_extW (iv 17) (ac (i_lstW (ac (i_tup (ac (iv 13) (ac (i_lstW (ac (i_erf T.g_TooMany (by decide) (iv 13)) a0)) a0))) (ac (i_tup (ac (iv 14) (ac (i_lstW (ac (i_erf T.g_Twice (by decide) (iv 14)) (ac (i_erf T.g_Twice (by decide) (iv 14)) a0))) a0))) (ac (i_tup (ac (i_er0 T.h_Untaken (room_two h2 hr)) (ac (i_lstW a0) a0))) (ac (i_tup (ac (iv 15) (ac (i_lstW (ac (i_erf T.g_UseRing (by decide) (iv 15)) a0)) a0))) a0))))) a0))) (s_one (s_ret (i_op sim_catW (iv 17) (i_lstW (ac (i_tup (ac (iv 16) (ac (i_lstW (ac (i_erf T.g_Wrong (by decide) (iv 16)) a0)) a0))) a0)))))))))))))))
theorem d29 (T : Tab P w K mg base ct n call) (hr : Room n (A.deeper (envOfC "_law_are_errors_right" (defScope st29) s.heap.objs.size f cdv))) (gd : A.guards = some []) (hS : FnScope N29 P29 (defScope st29) := sc29) :
    PSs (bodyX P w K mg base N29 "_law_are_errors_right" (defScope st29) f cdv A outer s H E) (defBody st29) (tS ⟨K, ct⟩ NX (b29 call)) := by
  unfold b29
  exact (s_cons (s_for PassesOwn.never rfl (w_enum (by rfl) T.b_enumerate (ac (cCall (T.o28) hr gd (ac (iv 0) (ac (iv 1) a0))) a0)) (g_tup rfl (gs_cons (g_name 2 hS.nd ) (gs_cons (g_tup rfl (gs_cons (g_name 3 hS.nd ) (gs_cons (g_name 4 hS.nd ) gs_nil))) gs_nil))) (s_cons (s_if ((w_or (t_cmp (sim_ne (hu64 hr)) (cCall (T.o27) hr gd (ac (iv 3) a0)) (i_lstW (ac (iv 2) a0)) (by rfl)) (w_or (t_not (t_tru (i_isE T.i_SwornError (by rfl) T.b_isinstance (by rfl) (iv 3)))) (w_or1 (t_not (t_tru (i_isB T.i_ValueError (by rfl) T.b_isinstance (by rfl) T.b_ValueError (by decide +kernel) (iv 3)))))))).pt (s_one (s_ret ib)) s_nil) (s_one (s_if (t_not (t_tru (cCall (T.o12) hr gd (ac (iv 4) (ac (i_slW (i_lstW (ac (iv 0) (ac (iv 1) a0))) o_none (o_some (i_callB c_lenW (by rfl) T.b_len (by decide +kernel) (ac (iv 4) a0)))) a0))))) (s_one (s_ret ib)) s_nil)))) (s_one (s_ret ib)))
theorem d30 (T : Tab P w K mg base ct n call) (hr : Room n (A.deeper (envOfC "_law_near_name" (defScope st30) s.heap.objs.size f cdv))) (gd : A.guards = some []) (hS : FnScope N30 P30 (defScope st30) := sc30) :
    PSs (bodyX P w K mg base N30 "_law_near_name" (defScope st30) f cdv A outer s H E) (defBody st30) (tS ⟨K, ct⟩ NX (b30 call)) := by
  unfold b30
  exact (s_cons (s_set 1 hS.nd (cCall (T.o11) hr gd (ac (iv 0) (ac (i_lst (ac is (ac is (ac is (ac is (ac is (ac is (ac is (ac is (ac (i_op sim_mulA is ii) (ac (i_op sim_mulA is ii) (ac is (ac is a0))))))))))))) a0)))) (s_cons (s_set 2 hS.nd (cCall (T.o11) hr gd (ac (iv 0) (ac (i_lst (ac is (ac is (ac is (ac is (ac is (ac is (ac is (ac is a0))))))))) a0)))) (s_cons (s_set 3 hS.nd (i_lst (ac (iv 1) (ac (i_op sim_add (i_op sim_add (iv 1) is) (iv 2)) (ac (i_op sim_add (iv 1) (iv 2)) (ac (i_op sim_add (iv 2) (iv 1)) (ac (i_op sim_add (iv 1) is) (ac (i_op sim_add is (iv 1)) (ac (i_op sim_add (iv 1) is) (ac (i_op sim_add (i_op sim_add (i_op sim_add (iv 1) is) (iv 2)) is) a0)))))))))) (s_cons (s_set 3 hS.nd (i_op sim_add (iv 3) (i_lst (ac (i_op sim_add (iv 1) is) a0)))) (s_cons (s_set 3 hS.nd (i_op sim_add (iv 3) (i_lst (ac (i_op sim_add (iv 1) is) (ac (i_op sim_add (iv 1) (iv 1)) (ac (i_op sim_add is (iv 1)) (ac (i_op sim_add is (iv 1)) (ac (i_methS0 PySem.F.slot_str_upper PySem.F.type_str_upper m_upper (iv 1)) (ac (i_methS0 PySem.F.slot_str_lower PySem.F.type_str_lower m_lower (iv 1)) (ac (i_op sim_add (iv 1) is) (ac (i_op sim_add is (iv 1)) a0))))))))))) (s_one (s_ret (cCall (T.o11) hr gd (ac (iv 0) (ac (iv 3) a0))))))))))
theorem d31 (T : Tab P w K mg base ct n call) (hr : Room n (A.deeper (envOfC "_law_is_named" (defScope st31) s.heap.objs.size f cdv))) (gd : A.guards = some []) (hS : FnScope N31 P31 (defScope st31) := sc31) :
    PSs (bodyX P w K mg base N31 "_law_is_named" (defScope st31) f cdv A outer s H E) (defBody st31) (tS ⟨K, ct⟩ NX (b31 call)) := by
  unfold b31
  exact (s_cons (s_set 1 hS.nd (i_lst (ac (cCall (T.o0) hr gd (ac (iv 0) a0)) (ac (cCall (T.o1) hr gd (ac (iv 0) a0)) (ac (cCall (T.o3) hr gd (ac (iv 0) a0)) (ac (cCall (T.o4) hr gd (ac (iv 0) a0)) (ac (cCall (T.o5) hr gd (ac (iv 0) a0)) a0))))))) (s_cons (s_set 2 hS.nd (i_lst (ac (cCall (T.o13) hr gd (ac (iv 0) a0)) (ac (cCall (T.o25) hr gd (ac (iv 0) a0)) (ac (cCall (T.o20) hr gd (ac (iv 0) a0)) (ac (cCall (T.o21) hr gd (ac (iv 0) a0)) (ac (cCall (T.o23) hr gd (ac (iv 0) a0)) a0))))))) (s_cons (s_set 3 hS.nd (i_lst (ac (cCall (T.o6) hr gd (ac (iv 0) a0)) (ac (cCall (T.o7) hr gd (ac (iv 0) a0)) a0)))) (s_one (s_ret (cCall (T.o12) hr gd (ac (i_op sim_add (iv 1) (iv 3)) (ac (i_op sim_add (iv 2) (i_lst (ac (cCall (T.o20) hr gd (ac (iv 0) a0)) (ac (cCall (T.o24) hr gd (ac (iv 0) a0)) a0)))) a0))))))))
theorem d32 (T : Tab P w K mg base ct n call) (h2 : 2 ≤ n) (hr : Room n (A.deeper (envOfC "law" (defScope st32) s.heap.objs.size f cdv))) (gd : A.guards = some []) (hS : FnScope N32 P32 (defScope st32) := sc32) :
    PSs (bodyX P w K mg base N32 "law" (defScope st32) f cdv A outer s H E) (defBody st32) (tS ⟨K, ct⟩ NX (b32 call)) := by
  unfold b32
  exact (s_cons (s_set 1 hS.nd (cCallL (T.o9) hr gd (ac (iv 0) a0))) (s_cons (s_par 2 3 rfl hS.nd (by decide) (ac (cCall (T.o26) hr gd (ac (iv 1) a0)) (ac (i_live (ac ii a0)) a0))) (s_cons (s_set 4 hS.nd (cCall (T.o28) hr gd (ac (iv 3) (ac (iv 2) a0)))) (s_cons (s_expr (i_meth PySem.F.slot_list_append PySem.F.type_list_append m_append (iv 3) (ac (iv 2) a0))) (s_cons (s_for PassesOwn.never rfl (w_seq (iv 4)) (g_tup rfl (gs_cons (g_name 5 hS.nd ) (gs_cons (g_name 6 hS.nd ) gs_nil))) (s_one (s_if (t_not (t_tru (cCall (T.o12) hr gd (ac (iv 6) (ac (i_slW (i_lstW (ac (iv 3) (ac (iv 2) a0))) o_none (o_some (i_callB c_lenW (by rfl) T.b_len (by decide +kernel) (ac (iv 6) a0)))) a0))))) (s_one (s_ret ib)) s_nil))) (s_cons (s_if ((w_or (t_not (t_tru (cCall (T.o29) hr gd (ac (iv 2) (ac (i_lstW (ac (iv 2) a0)) a0))))) (w_or1 (t_not (t_tru (cCall (T.o29) hr gd (ac (i_lstW (ac (iv 2) a0)) (ac (iv 2) a0)))))))).pt (s_one (s_ret ib)) s_nil) (s_cons (s_for PassesOwn.never rfl (w_range1 (by rfl) T.b_range (ac ii a0)) (g_name 7 hS.nd ) (s_cons (s_set 8 hS.nd (cCall (T.o11) hr gd (ac (iv 1) (ac (i_lstW (ac ii (ac ii (ac (i_neg ii) (ac (i_op sim_pow ii ii) (ac (i_neg (i_op sim_pow ii ii)) (ac ii (ac ii (ac (i_neg ii) a0))))))))) a0)))) (s_cons (s_set 8 hS.nd (i_op sim_sub (i_op sim_add (iv 8) (cCall (T.o10) hr gd (ac (iv 1) (ac ii a0)))) ii)) (s_cons (s_if (t_not (t_tru (cCall (T.o12) hr gd (ac (cCall (T.o8) hr gd (ac (iv 8) a0)) (ac (cCall (T.o14) hr gd (ac (iv 8) a0)) a0))))) (s_one (s_ret ib)) s_nil) (s_cons (s_set 9 hS.nd (cCall (T.o11) hr gd (ac (iv 1) (ac (cCall0 (T.o15) hr gd) a0)))) (s_cons (s_set 10 hS.nd (i_lstW (ac (iv 9) (ac (i_op sim_add (iv 9) is) (ac (i_op sim_add is (iv 9)) (ac (i_op sim_add (iv 9) is) a0)))))) (s_one (s_for PassesOwn.never rfl (w_seq (i_op sim_add (i_lstW (ac (iv 8) (ac (cCall (T.o30) hr gd (ac (iv 1) a0)) (ac (cCall (T.o26) hr gd (ac (iv 1) a0)) (ac (i_own0 T.w_Nothing (room_two h2 hr)) a0))))) (iv 10))) (g_name 11 hS.nd ) (s_one (s_if (t_not (t_tru (cCall (T.o31) hr gd (ac (iv 11) a0)))) (s_one (s_ret ib)) s_nil)))))))))) (s_one (s_ret ib)))))))))
end
/-! all of them -/
structure Facts (P : Program) (w : World) (K : PySem.W.Frag) (mg : Str → Option Value) (ct : Nat → Option Addr) : Prop where
  w_Nothing : ∀ base, KMake P w K mg base "Nothing"
  g_Broken : ∀ base, KErr P w K mg base "Broken" ["index"]
  g_Hidden : ∀ base, KErr P w K mg base "Hidden" ["module", "name"]
  g_NoIndex : ∀ base, KErr P w K mg base "NoIndex" ["index"]
  g_NoModule : ∀ base, KErr P w K mg base "NoModule" ["module", "name"]
  g_NoName : ∀ base, KErr P w K mg base "NoName" ["module", "name"]
  g_NoText : ∀ base, KErr P w K mg base "NoText" ["line", "column"]
  g_NoValues : ∀ base, KErr P w K mg base "NoValues" ["module", "name"]
  g_NotFit : ∀ base, KErr P w K mg base "NotFit" ["module", "name"]
  g_NotTyped : ∀ base, KErr P w K mg base "NotTyped" ["lot"]
  g_NotWhole : ∀ base, KErr P w K mg base "NotWhole" ["place", "pattern"]
  g_TooGreat : ∀ base, KErr P w K mg base "TooGreat" ["most"]
  g_TooMany : ∀ base, KErr P w K mg base "TooMany" ["most"]
  g_Twice : ∀ base, KErr P w K mg base "Twice" ["module", "name"]
  g_UseRing : ∀ base, KErr P w K mg base "UseRing" ["names"]
  g_Wrong : ∀ base, KErr P w K mg base "Wrong" ["place"]
  h_NotKind : ∀ base, KErr0 P w K mg base "NotKind"
  h_NotProgram : ∀ base, KErr0 P w K mg base "NotProgram"
  h_Nothing : ∀ base, KErr0 P w K mg base "Nothing"
  h_Stuck : ∀ base, KErr0 P w K mg base "Stuck"
  h_Untaken : ∀ base, KErr0 P w K mg base "Untaken"
  i_Broken : KIsE K mg "Broken" L_Broken
  i_Hidden : KIsE K mg "Hidden" L_Hidden
  i_NoIndex : KIsE K mg "NoIndex" L_NoIndex
  i_NoModule : KIsE K mg "NoModule" L_NoModule
  i_NoName : KIsE K mg "NoName" L_NoName
  i_NoText : KIsE K mg "NoText" L_NoText
  i_NoValues : KIsE K mg "NoValues" L_NoValues
  i_NotFit : KIsE K mg "NotFit" L_NotFit
  i_NotKind : KIsE K mg "NotKind" L_NotKind
  i_NotProgram : KIsE K mg "NotProgram" L_NotProgram
  i_NotTyped : KIsE K mg "NotTyped" L_NotTyped
  i_NotWhole : KIsE K mg "NotWhole" L_NotWhole
  i_Nothing : KIsE K mg "Nothing" L_Nothing
  i_Stuck : KIsE K mg "Stuck" L_Stuck
  i_SwornError : KIsE K mg "SwornError" L_SwornError
  i_TooGreat : KIsE K mg "TooGreat" L_TooGreat
  i_TooMany : KIsE K mg "TooMany" L_TooMany
  i_Twice : KIsE K mg "Twice" L_Twice
  i_Untaken : KIsE K mg "Untaken" L_Untaken
  i_UseRing : KIsE K mg "UseRing" L_UseRing
  i_Wrong : KIsE K mg "Wrong" L_Wrong
  i_ValueError : KIsB K "ValueError" L_ValueError
  sysm : (K.lookup sysModules).isSome = true
  a0 : DefAt K mg "is_integer" st0
  a1 : DefAt K mg "is_number" st1
  a2 : DefAt K mg "begins_name" st2
  a3 : DefAt K mg "is_small" st3
  a4 : DefAt K mg "is_great" st4
  a5 : DefAt K mg "is_name" st5
  a6 : DefAt K mg "is_label" st6
  a7 : DefAt K mg "is_maker" st7
  a8 : DefAt K mg "wrapped" st8
  a9 : DefAt K mg "_law_bag" st9
  a10 : DefAt K mg "_law_take" st10
  a11 : DefAt K mg "_law_some" st11
  a12 : DefAt K mg "_law_alike" st12
  a13 : DefAt K mg "_law_is_int" st13
  a14 : DefAt K mg "_law_wrapped" st14
  a15 : DefAt K mg "_law_barred" st15
  a16 : DefAt K mg "_law_small_signs" st16
  a17 : DefAt K mg "_law_great_signs" st17
  a18 : DefAt K mg "_law_figures" st18
  a19 : DefAt K mg "_law_is_spelt" st19
  a20 : DefAt K mg "_law_is_small" st20
  a21 : DefAt K mg "_law_is_great" st21
  a22 : DefAt K mg "_law_sides" st22
  a23 : DefAt K mg "_law_is_name" st23
  a24 : DefAt K mg "_law_is_maker" st24
  a25 : DefAt K mg "_law_is_number" st25
  a26 : DefAt K mg "_law_odd" st26
  a27 : DefAt K mg "_law_classes_of" st27
  a28 : DefAt K mg "_law_error_rows" st28
  a29 : DefAt K mg "_law_are_errors_right" st29
  a30 : DefAt K mg "_law_near_name" st30
  a31 : DefAt K mg "_law_is_named" st31
  a32 : DefAt K mg "law" st32
  c_ALL_NUMBERS : KCon K mg "ALL_NUMBERS" k_ALL_NUMBERS
  c_BARRED : KCon K mg "BARRED" k_BARRED
  c_GREATEST_NUMBER : KCon K mg "GREATEST_NUMBER" k_GREATEST_NUMBER
  c_GREAT_LETTERS : KCon K mg "GREAT_LETTERS" k_GREAT_LETTERS
  c_LEAST_NUMBER : KCon K mg "LEAST_NUMBER" k_LEAST_NUMBER
  c_LONGEST_NAME : KCon K mg "LONGEST_NAME" k_LONGEST_NAME
  c_NAME_SIGNS : KCon K mg "NAME_SIGNS" k_NAME_SIGNS
  c_SMALL_LETTERS : KCon K mg "SMALL_LETTERS" k_SMALL_LETTERS
  b_ValueError : mg "ValueError" = none
  b_abs : mg "abs" = none
  b_all : mg "all" = none
  b_bool : mg "bool" = none
  b_enumerate : mg "enumerate" = none
  b_int : mg "int" = none
  b_isinstance : mg "isinstance" = none
  b_len : mg "len" = none
  b_range : mg "range" = none
  b_repr : mg "repr" = none
  b_str : mg "str" = none
  b_tuple : mg "tuple" = none
theorem bn0 : Bnd "is_integer" st0 P0 := fun _ _ _ _ _ _ us hl => match us, hl with | [_], _ => rfl
theorem bn1 : Bnd "is_number" st1 P1 := fun _ _ _ _ _ _ us hl => match us, hl with | [_], _ => rfl
theorem bn2 : Bnd "begins_name" st2 P2 := fun _ _ _ _ _ _ us hl => match us, hl with | [_, _], _ => rfl
theorem bn3 : Bnd "is_small" st3 P3 := fun _ _ _ _ _ _ us hl => match us, hl with | [_], _ => rfl
theorem bn4 : Bnd "is_great" st4 P4 := fun _ _ _ _ _ _ us hl => match us, hl with | [_], _ => rfl
theorem bn5 : Bnd "is_name" st5 P5 := fun _ _ _ _ _ _ us hl => match us, hl with | [_], _ => rfl
theorem bn6 : Bnd "is_label" st6 P6 := fun _ _ _ _ _ _ us hl => match us, hl with | [_], _ => rfl
theorem bn7 : Bnd "is_maker" st7 P7 := fun _ _ _ _ _ _ us hl => match us, hl with | [_], _ => rfl
theorem bn8 : Bnd "wrapped" st8 P8 := fun _ _ _ _ _ _ us hl => match us, hl with | [_], _ => rfl
theorem bn9 : Bnd "_law_bag" st9 P9 := fun _ _ _ _ _ _ us hl => match us, hl with | [_], _ => rfl
theorem bn10 : Bnd "_law_take" st10 P10 := fun _ _ _ _ _ _ us hl => match us, hl with | [_, _], _ => rfl
theorem bn11 : Bnd "_law_some" st11 P11 := fun _ _ _ _ _ _ us hl => match us, hl with | [_, _], _ => rfl
theorem bn12 : Bnd "_law_alike" st12 P12 := fun _ _ _ _ _ _ us hl => match us, hl with | [_, _], _ => rfl
theorem bn13 : Bnd "_law_is_int" st13 P13 := fun _ _ _ _ _ _ us hl => match us, hl with | [_], _ => rfl
theorem bn14 : Bnd "_law_wrapped" st14 P14 := fun _ _ _ _ _ _ us hl => match us, hl with | [_], _ => rfl
theorem bn15 : Bnd "_law_barred" st15 P15 := fun _ _ _ _ _ _ us hl => match us, hl with | [], _ => rfl
theorem bn16 : Bnd "_law_small_signs" st16 P16 := fun _ _ _ _ _ _ us hl => match us, hl with | [], _ => rfl
theorem bn17 : Bnd "_law_great_signs" st17 P17 := fun _ _ _ _ _ _ us hl => match us, hl with | [], _ => rfl
theorem bn18 : Bnd "_law_figures" st18 P18 := fun _ _ _ _ _ _ us hl => match us, hl with | [], _ => rfl
theorem bn19 : Bnd "_law_is_spelt" st19 P19 := fun _ _ _ _ _ _ us hl => match us, hl with | [_, _], _ => rfl
theorem bn20 : Bnd "_law_is_small" st20 P20 := fun _ _ _ _ _ _ us hl => match us, hl with | [_], _ => rfl
theorem bn21 : Bnd "_law_is_great" st21 P21 := fun _ _ _ _ _ _ us hl => match us, hl with | [_], _ => rfl
theorem bn22 : Bnd "_law_sides" st22 P22 := fun _ _ _ _ _ _ us hl => match us, hl with | [_], _ => rfl
theorem bn23 : Bnd "_law_is_name" st23 P23 := fun _ _ _ _ _ _ us hl => match us, hl with | [_], _ => rfl
theorem bn24 : Bnd "_law_is_maker" st24 P24 := fun _ _ _ _ _ _ us hl => match us, hl with | [_], _ => rfl
theorem bn25 : Bnd "_law_is_number" st25 P25 := fun _ _ _ _ _ _ us hl => match us, hl with | [_], _ => rfl
theorem bn26 : Bnd "_law_odd" st26 P26 := fun _ _ _ _ _ _ us hl => match us, hl with | [_], _ => rfl
theorem bn27 : Bnd "_law_classes_of" st27 P27 := fun _ _ _ _ _ _ us hl => match us, hl with | [_], _ => rfl
theorem bn28 : Bnd "_law_error_rows" st28 P28 := fun _ _ _ _ _ _ us hl => match us, hl with | [_, _], _ => rfl
theorem bn29 : Bnd "_law_are_errors_right" st29 P29 := fun _ _ _ _ _ _ us hl => match us, hl with | [_, _], _ => rfl
theorem bn30 : Bnd "_law_near_name" st30 P30 := fun _ _ _ _ _ _ us hl => match us, hl with | [_], _ => rfl
theorem bn31 : Bnd "_law_is_named" st31 P31 := fun _ _ _ _ _ _ us hl => match us, hl with | [_], _ => rfl
theorem bn32 : Bnd "law" st32 P32 := fun _ _ _ _ _ _ us hl => match us, hl with | [_], _ => rfl
theorem tab_all {P : Program} {w : World} {K : PySem.W.Frag} {mg : Str → Option Value} {base : Heap} {ct : Nat → Option Addr} (F : Facts P w K mg ct) : ∀ n, Tab P w K mg base ct n (callN n)
  | 0 => ⟨callee_zero F.a0 bn0 fun _ _ => rfl, callee_zero F.a1 bn1 fun _ _ => rfl, callee_zero F.a2 bn2 fun _ _ => rfl, callee_zero F.a3 bn3 fun _ _ => rfl, callee_zero F.a4 bn4 fun _ _ => rfl, callee_zero F.a5 bn5 fun _ _ => rfl, callee_zero F.a6 bn6 fun _ _ => rfl, callee_zero F.a7 bn7 fun _ _ => rfl, callee_zero F.a8 bn8 fun _ _ => rfl, callee_zero F.a9 bn9 fun _ _ => rfl, callee_zero F.a10 bn10 fun _ _ => rfl, callee_zero F.a11 bn11 fun _ _ => rfl, callee_zero F.a12 bn12 fun _ _ => rfl, callee_zero F.a13 bn13 fun _ _ => rfl, callee_zero F.a14 bn14 fun _ _ => rfl, callee_zero F.a15 bn15 fun _ _ => rfl, callee_zero F.a16 bn16 fun _ _ => rfl, callee_zero F.a17 bn17 fun _ _ => rfl, callee_zero F.a18 bn18 fun _ _ => rfl, callee_zero F.a19 bn19 fun _ _ => rfl, callee_zero F.a20 bn20 fun _ _ => rfl, callee_zero F.a21 bn21 fun _ _ => rfl, callee_zero F.a22 bn22 fun _ _ => rfl, callee_zero F.a23 bn23 fun _ _ => rfl, callee_zero F.a24 bn24 fun _ _ => rfl, callee_zero F.a25 bn25 fun _ _ => rfl, callee_zero F.a26 bn26 fun _ _ => rfl, callee_zero F.a27 bn27 fun _ _ => rfl, callee_zero F.a28 bn28 fun _ _ => rfl, callee_zero F.a29 bn29 fun _ _ => rfl, callee_zero F.a30 bn30 fun _ _ => rfl, callee_zero F.a31 bn31 fun _ _ => rfl, callee_zero F.a32 bn32 fun _ _ => rfl, F.w_Nothing _, F.g_Broken _, F.g_Hidden _, F.g_NoIndex _, F.g_NoModule _, F.g_NoName _, F.g_NoText _, F.g_NoValues _, F.g_NotFit _, F.g_NotTyped _, F.g_NotWhole _, F.g_TooGreat _, F.g_TooMany _, F.g_Twice _, F.g_UseRing _, F.g_Wrong _, F.h_NotKind _, F.h_NotProgram _, F.h_Nothing _, F.h_Stuck _, F.h_Untaken _, F.i_Broken, F.i_Hidden, F.i_NoIndex, F.i_NoModule, F.i_NoName, F.i_NoText, F.i_NoValues, F.i_NotFit, F.i_NotKind, F.i_NotProgram, F.i_NotTyped, F.i_NotWhole, F.i_Nothing, F.i_Stuck, F.i_SwornError, F.i_TooGreat, F.i_TooMany, F.i_Twice, F.i_Untaken, F.i_UseRing, F.i_Wrong, F.i_ValueError, F.sysm, F.c_ALL_NUMBERS, F.c_BARRED, F.c_GREATEST_NUMBER, F.c_GREAT_LETTERS, F.c_LEAST_NUMBER, F.c_LONGEST_NAME, F.c_NAME_SIGNS, F.c_SMALL_LETTERS, F.b_ValueError, F.b_abs, F.b_all, F.b_bool, F.b_enumerate, F.b_int, F.b_isinstance, F.b_len, F.b_range, F.b_repr, F.b_str, F.b_tuple⟩
  | n + 1 =>
    have T : Tab P w K mg base ct n (callN n) := tab_all F n
    ⟨callee_succ F.a0 bn0 sc0 (fun _ _ => rfl) fun _ _ _ _ _ _ _ r gd => d0 T r gd, callee_succ F.a1 bn1 sc1 (fun _ _ => rfl) fun _ _ _ _ _ _ _ r gd => d1 T r gd, callee_succ F.a2 bn2 sc2 (fun _ _ => rfl) fun _ _ _ _ _ _ _ r gd => d2 T r gd, callee_succ F.a3 bn3 sc3 (fun _ _ => rfl) fun _ _ _ _ _ _ _ r gd => d3 T r gd, callee_succ F.a4 bn4 sc4 (fun _ _ => rfl) fun _ _ _ _ _ _ _ r gd => d4 T r gd, callee_succ F.a5 bn5 sc5 (fun _ _ => rfl) fun _ _ _ _ _ _ _ r gd => d5 T r gd, callee_succ F.a6 bn6 sc6 (fun _ _ => rfl) fun _ _ _ _ _ _ _ r gd => d6 T r gd, callee_succ F.a7 bn7 sc7 (fun _ _ => rfl) fun _ _ _ _ _ _ _ r gd => d7 T r gd, callee_succ F.a8 bn8 sc8 (fun _ _ => rfl) fun _ _ _ _ _ _ _ r gd => d8 T r gd, callee_succ F.a9 bn9 sc9 (fun _ _ => rfl) fun _ _ _ _ _ _ _ r gd => d9 T r gd, callee_succ F.a10 bn10 sc10 (fun _ _ => rfl) fun _ _ _ _ _ _ _ r gd => d10 T r gd, callee_succ F.a11 bn11 sc11 (fun _ _ => rfl) fun _ _ _ _ _ _ _ r gd => d11 T r gd, callee_succ F.a12 bn12 sc12 (fun _ _ => rfl) fun _ _ _ _ _ _ _ r gd => d12 T r gd, callee_succ F.a13 bn13 sc13 (fun _ _ => rfl) fun _ _ _ _ _ _ _ r gd => d13 T r gd, callee_succ F.a14 bn14 sc14 (fun _ _ => rfl) fun _ _ _ _ _ _ _ r gd => d14 T r gd, callee_succ F.a15 bn15 sc15 (fun _ _ => rfl) fun _ _ _ _ _ _ _ r gd => d15 T r gd, callee_succ F.a16 bn16 sc16 (fun _ _ => rfl) fun _ _ _ _ _ _ _ r gd => d16 T r gd, callee_succ F.a17 bn17 sc17 (fun _ _ => rfl) fun _ _ _ _ _ _ _ r gd => d17 T r gd, callee_succ F.a18 bn18 sc18 (fun _ _ => rfl) fun _ _ _ _ _ _ _ r gd => d18 T r gd, callee_succ F.a19 bn19 sc19 (fun _ _ => rfl) fun _ _ _ _ _ _ _ r gd => d19 T r gd, callee_succ F.a20 bn20 sc20 (fun _ _ => rfl) fun _ _ _ _ _ _ _ r gd => d20 T r gd, callee_succ F.a21 bn21 sc21 (fun _ _ => rfl) fun _ _ _ _ _ _ _ r gd => d21 T r gd, callee_succ F.a22 bn22 sc22 (fun _ _ => rfl) fun _ _ _ _ _ _ _ r gd => d22 T r gd, callee_succ F.a23 bn23 sc23 (fun _ _ => rfl) fun _ _ _ _ _ _ _ r gd => d23 T r gd, callee_succ F.a24 bn24 sc24 (fun _ _ => rfl) fun _ _ _ _ _ _ _ r gd => d24 T r gd, callee_succ F.a25 bn25 sc25 (fun _ _ => rfl) fun _ _ _ _ _ _ _ r gd => d25 T r gd, callee_succ F.a26 bn26 sc26 (fun _ _ => rfl) fun _ _ _ _ _ _ _ r gd => d26 T r gd, callee_succ F.a27 bn27 sc27 (fun _ _ => rfl) fun _ _ _ _ _ _ _ r gd => d27 T r gd, callee2_succ F.a28 bn28 sc28 (fun _ _ => rfl) fun h2 _ _ _ _ _ _ _ r gd => d28 T h2 r gd, callee_succ F.a29 bn29 sc29 (fun _ _ => rfl) fun _ _ _ _ _ _ _ r gd => d29 T r gd, callee_succ F.a30 bn30 sc30 (fun _ _ => rfl) fun _ _ _ _ _ _ _ r gd => d30 T r gd, callee_succ F.a31 bn31 sc31 (fun _ _ => rfl) fun _ _ _ _ _ _ _ r gd => d31 T r gd, callee2_succ F.a32 bn32 sc32 (fun _ _ => rfl) fun h2 _ _ _ _ _ _ _ r gd => d32 T h2 r gd, F.w_Nothing _, F.g_Broken _, F.g_Hidden _, F.g_NoIndex _, F.g_NoModule _, F.g_NoName _, F.g_NoText _, F.g_NoValues _, F.g_NotFit _, F.g_NotTyped _, F.g_NotWhole _, F.g_TooGreat _, F.g_TooMany _, F.g_Twice _, F.g_UseRing _, F.g_Wrong _, F.h_NotKind _, F.h_NotProgram _, F.h_Nothing _, F.h_Stuck _, F.h_Untaken _, F.i_Broken, F.i_Hidden, F.i_NoIndex, F.i_NoModule, F.i_NoName, F.i_NoText, F.i_NoValues, F.i_NotFit, F.i_NotKind, F.i_NotProgram, F.i_NotTyped, F.i_NotWhole, F.i_Nothing, F.i_Stuck, F.i_SwornError, F.i_TooGreat, F.i_TooMany, F.i_Twice, F.i_Untaken, F.i_UseRing, F.i_Wrong, F.i_ValueError, F.sysm, F.c_ALL_NUMBERS, F.c_BARRED, F.c_GREATEST_NUMBER, F.c_GREAT_LETTERS, F.c_LEAST_NUMBER, F.c_LONGEST_NAME, F.c_NAME_SIGNS, F.c_SMALL_LETTERS, F.b_ValueError, F.b_abs, F.b_all, F.b_bool, F.b_enumerate, F.b_int, F.b_isinstance, F.b_len, F.b_range, F.b_repr, F.b_str, F.b_tuple⟩
end VI
set_option Elab.async false
set_option linter.all false
set_option maxRecDepth 100000
set_option maxHeartbeats 0
namespace VI
open PySem PySem.Spec PyProof.Rows L2
abbrev RR : PySem.W.OpenRow := PySem.W.OpenLaw.row PySem.Challenge.rw_kindsworn_k00_errors_numbers_and_names
def dfn (x : Str) (st : Stmt) : He.DefD := ⟨(x, none), x, x, defArgs st, defBody st, defScope st, [], []⟩
def fns : List He.DefD := [dfn "is_integer" st0, dfn "is_number" st1, dfn "begins_name" st2, dfn "is_small" st3, dfn "is_great" st4, dfn "is_name" st5, dfn "is_label" st6, dfn "is_maker" st7, dfn "wrapped" st8, dfn "_law_bag" st9, dfn "_law_take" st10, dfn "_law_some" st11, dfn "_law_alike" st12, dfn "_law_is_int" st13, dfn "_law_wrapped" st14, dfn "_law_barred" st15, dfn "_law_small_signs" st16, dfn "_law_great_signs" st17, dfn "_law_figures" st18, dfn "_law_is_spelt" st19, dfn "_law_is_small" st20, dfn "_law_is_great" st21, dfn "_law_sides" st22, dfn "_law_is_name" st23, dfn "_law_is_maker" st24, dfn "_law_is_number" st25, dfn "_law_odd" st26, dfn "_law_classes_of" st27, dfn "_law_error_rows" st28, dfn "_law_are_errors_right" st29, dfn "_law_near_name" st30, dfn "_law_is_named" st31, dfn "law" st32, ⟨("Broken", some "__init__"), "__init__", "Broken.__init__", defArgs (clsT 20 0), defBody (clsT 20 0), defScope (clsT 20 0), [], []⟩, ⟨("Hidden", some "__init__"), "__init__", "Hidden.__init__", defArgs (clsT 21 0), defBody (clsT 21 0), defScope (clsT 21 0), [], []⟩, ⟨("NoIndex", some "__init__"), "__init__", "NoIndex.__init__", defArgs (clsT 22 0), defBody (clsT 22 0), defScope (clsT 22 0), [], []⟩, ⟨("NoModule", some "__init__"), "__init__", "NoModule.__init__", defArgs (clsT 23 0), defBody (clsT 23 0), defScope (clsT 23 0), [], []⟩, ⟨("NoName", some "__init__"), "__init__", "NoName.__init__", defArgs (clsT 24 0), defBody (clsT 24 0), defScope (clsT 24 0), [], []⟩, ⟨("NoText", some "__init__"), "__init__", "NoText.__init__", defArgs (clsT 25 0), defBody (clsT 25 0), defScope (clsT 25 0), [], []⟩, ⟨("NoValues", some "__init__"), "__init__", "NoValues.__init__", defArgs (clsT 26 0), defBody (clsT 26 0), defScope (clsT 26 0), [], []⟩, ⟨("NotFit", some "__init__"), "__init__", "NotFit.__init__", defArgs (clsT 27 0), defBody (clsT 27 0), defScope (clsT 27 0), [], []⟩, ⟨("NotKind", some "__init__"), "__init__", "NotKind.__init__", defArgs (clsT 28 0), defBody (clsT 28 0), defScope (clsT 28 0), [], []⟩, ⟨("NotProgram", some "__init__"), "__init__", "NotProgram.__init__", defArgs (clsT 29 0), defBody (clsT 29 0), defScope (clsT 29 0), [], []⟩, ⟨("NotTyped", some "__init__"), "__init__", "NotTyped.__init__", defArgs (clsT 30 0), defBody (clsT 30 0), defScope (clsT 30 0), [], []⟩, ⟨("NotWhole", some "__init__"), "__init__", "NotWhole.__init__", defArgs (clsT 31 0), defBody (clsT 31 0), defScope (clsT 31 0), [], []⟩, ⟨("Nothing", some "__init__"), "__init__", "Nothing.__init__", defArgs (clsT 32 0), defBody (clsT 32 0), defScope (clsT 32 0), [], []⟩, ⟨("Stuck", some "__init__"), "__init__", "Stuck.__init__", defArgs (clsT 33 0), defBody (clsT 33 0), defScope (clsT 33 0), [], []⟩, ⟨("TooGreat", some "__init__"), "__init__", "TooGreat.__init__", defArgs (clsT 34 0), defBody (clsT 34 0), defScope (clsT 34 0), [], []⟩, ⟨("TooMany", some "__init__"), "__init__", "TooMany.__init__", defArgs (clsT 35 0), defBody (clsT 35 0), defScope (clsT 35 0), [], []⟩, ⟨("Twice", some "__init__"), "__init__", "Twice.__init__", defArgs (clsT 36 0), defBody (clsT 36 0), defScope (clsT 36 0), [], []⟩, ⟨("Untaken", some "__init__"), "__init__", "Untaken.__init__", defArgs (clsT 37 0), defBody (clsT 37 0), defScope (clsT 37 0), [], []⟩, ⟨("UseRing", some "__init__"), "__init__", "UseRing.__init__", defArgs (clsT 38 0), defBody (clsT 38 0), defScope (clsT 38 0), [], []⟩, ⟨("Wrong", some "__init__"), "__init__", "Wrong.__init__", defArgs (clsT 39 0), defBody (clsT 39 0), defScope (clsT 39 0), [], []⟩]
def fas : List He.Fa := [.glo "is_integer", .glo "is_number", .glo "begins_name", .glo "is_small", .glo "is_great", .glo "is_name", .glo "is_label", .glo "is_maker", .glo "wrapped", .glo "_law_bag", .glo "_law_take", .glo "_law_some", .glo "_law_alike", .glo "_law_is_int", .glo "_law_wrapped", .glo "_law_barred", .glo "_law_small_signs", .glo "_law_great_signs", .glo "_law_figures", .glo "_law_is_spelt", .glo "_law_is_small", .glo "_law_is_great", .glo "_law_sides", .glo "_law_is_name", .glo "_law_is_maker", .glo "_law_is_number", .glo "_law_odd", .glo "_law_classes_of", .glo "_law_error_rows", .glo "_law_are_errors_right", .glo "_law_near_name", .glo "_law_is_named", .glo "law", .glo "SwornError", .glo "Broken", .glo "Hidden", .glo "NoIndex", .glo "NoModule", .glo "NoName", .glo "NoText", .glo "NoValues", .glo "NotFit", .glo "NotKind", .glo "NotProgram", .glo "NotTyped", .glo "NotWhole", .glo "Nothing", .glo "Stuck", .glo "TooGreat", .glo "TooMany", .glo "Twice", .glo "Untaken", .glo "UseRing", .glo "Wrong", .free "ValueError", .free "abs", .free "all", .free "bool", .free "enumerate", .free "int", .free "isinstance", .free "len", .free "range", .free "repr", .free "str", .free "tuple", .meth "Nothing" "__init__", .meth "Broken" "__init__", .noat "Broken" "index", .meth "Hidden" "__init__", .noat "Hidden" "module", .noat "Hidden" "name", .meth "NoIndex" "__init__", .noat "NoIndex" "index", .meth "NoModule" "__init__", .noat "NoModule" "module", .noat "NoModule" "name", .meth "NoName" "__init__", .noat "NoName" "module", .noat "NoName" "name", .meth "NoText" "__init__", .noat "NoText" "line", .noat "NoText" "column", .meth "NoValues" "__init__", .noat "NoValues" "module", .noat "NoValues" "name", .meth "NotFit" "__init__", .noat "NotFit" "module", .noat "NotFit" "name", .meth "NotKind" "__init__", .meth "NotProgram" "__init__", .meth "NotTyped" "__init__", .noat "NotTyped" "lot", .meth "NotWhole" "__init__", .noat "NotWhole" "place", .noat "NotWhole" "pattern", .meth "Stuck" "__init__", .meth "TooGreat" "__init__", .noat "TooGreat" "most", .meth "TooMany" "__init__", .noat "TooMany" "most", .meth "Twice" "__init__", .noat "Twice" "module", .noat "Twice" "name", .meth "Untaken" "__init__", .meth "UseRing" "__init__", .noat "UseRing" "names", .meth "Wrong" "__init__", .noat "Wrong" "place"]
def exL (K : PySem.W.Frag) : List Bool := [oexB K (He.ga K "Nothing"), otB K (He.ga K "Nothing"), decide (PySem.W.typeIn K (.ref (He.ma K (He.ga K "Nothing") "__init__")) = some (.type "function")), oexB K (He.ga K "Broken"), decide (PySem.W.typeIn K (.ref (He.ma K (He.ga K "Broken") "__init__")) = some (.type "function")), L2.xfB K (He.ga K "Broken"), oexB K (He.ga K "Hidden"), decide (PySem.W.typeIn K (.ref (He.ma K (He.ga K "Hidden") "__init__")) = some (.type "function")), L2.xfB K (He.ga K "Hidden"), oexB K (He.ga K "NoIndex"), decide (PySem.W.typeIn K (.ref (He.ma K (He.ga K "NoIndex") "__init__")) = some (.type "function")), L2.xfB K (He.ga K "NoIndex"), oexB K (He.ga K "NoModule"), decide (PySem.W.typeIn K (.ref (He.ma K (He.ga K "NoModule") "__init__")) = some (.type "function")), L2.xfB K (He.ga K "NoModule"), oexB K (He.ga K "NoName"), decide (PySem.W.typeIn K (.ref (He.ma K (He.ga K "NoName") "__init__")) = some (.type "function")), L2.xfB K (He.ga K "NoName"), oexB K (He.ga K "NoText"), decide (PySem.W.typeIn K (.ref (He.ma K (He.ga K "NoText") "__init__")) = some (.type "function")), L2.xfB K (He.ga K "NoText"), oexB K (He.ga K "NoValues"), decide (PySem.W.typeIn K (.ref (He.ma K (He.ga K "NoValues") "__init__")) = some (.type "function")), L2.xfB K (He.ga K "NoValues"), oexB K (He.ga K "NotFit"), decide (PySem.W.typeIn K (.ref (He.ma K (He.ga K "NotFit") "__init__")) = some (.type "function")), L2.xfB K (He.ga K "NotFit"), oexB K (He.ga K "NotKind"), decide (PySem.W.typeIn K (.ref (He.ma K (He.ga K "NotKind") "__init__")) = some (.type "function")), otB K (He.ga K "NotKind"), oexB K (He.ga K "NotProgram"), decide (PySem.W.typeIn K (.ref (He.ma K (He.ga K "NotProgram") "__init__")) = some (.type "function")), otB K (He.ga K "NotProgram"), oexB K (He.ga K "NotTyped"), decide (PySem.W.typeIn K (.ref (He.ma K (He.ga K "NotTyped") "__init__")) = some (.type "function")), L2.xfB K (He.ga K "NotTyped"), oexB K (He.ga K "NotWhole"), decide (PySem.W.typeIn K (.ref (He.ma K (He.ga K "NotWhole") "__init__")) = some (.type "function")), L2.xfB K (He.ga K "NotWhole"), oexB K (He.ga K "Stuck"), decide (PySem.W.typeIn K (.ref (He.ma K (He.ga K "Stuck") "__init__")) = some (.type "function")), otB K (He.ga K "Stuck"), oexB K (He.ga K "TooGreat"), decide (PySem.W.typeIn K (.ref (He.ma K (He.ga K "TooGreat") "__init__")) = some (.type "function")), L2.xfB K (He.ga K "TooGreat"), oexB K (He.ga K "TooMany"), decide (PySem.W.typeIn K (.ref (He.ma K (He.ga K "TooMany") "__init__")) = some (.type "function")), L2.xfB K (He.ga K "TooMany"), oexB K (He.ga K "Twice"), decide (PySem.W.typeIn K (.ref (He.ma K (He.ga K "Twice") "__init__")) = some (.type "function")), L2.xfB K (He.ga K "Twice"), oexB K (He.ga K "Untaken"), decide (PySem.W.typeIn K (.ref (He.ma K (He.ga K "Untaken") "__init__")) = some (.type "function")), otB K (He.ga K "Untaken"), oexB K (He.ga K "UseRing"), decide (PySem.W.typeIn K (.ref (He.ma K (He.ga K "UseRing") "__init__")) = some (.type "function")), L2.xfB K (He.ga K "UseRing"), oexB K (He.ga K "Wrong"), decide (PySem.W.typeIn K (.ref (He.ma K (He.ga K "Wrong") "__init__")) = some (.type "function")), L2.xfB K (He.ga K "Wrong"), excAB K ["Broken", "Hidden", "NoIndex", "NoModule", "NoName", "NoText", "NoValues", "NotFit", "NotKind", "NotProgram", "NotTyped", "NotWhole", "Nothing", "Stuck", "TooGreat", "TooMany", "Twice", "Untaken", "UseRing", "Wrong"], isEB K "Broken" L_Broken, isEB K "Hidden" L_Hidden, isEB K "NoIndex" L_NoIndex, isEB K "NoModule" L_NoModule, isEB K "NoName" L_NoName, isEB K "NoText" L_NoText, isEB K "NoValues" L_NoValues, isEB K "NotFit" L_NotFit, isEB K "NotKind" L_NotKind, isEB K "NotProgram" L_NotProgram, isEB K "NotTyped" L_NotTyped, isEB K "NotWhole" L_NotWhole, isEB K "Nothing" L_Nothing, isEB K "Stuck" L_Stuck, isEB K "SwornError" L_SwornError, isEB K "TooGreat" L_TooGreat, isEB K "TooMany" L_TooMany, isEB K "Twice" L_Twice, isEB K "Untaken" L_Untaken, isEB K "UseRing" L_UseRing, isEB K "Wrong" L_Wrong, isBB K "ValueError" L_ValueError, (K.lookup sysModules).isSome, conB K "SMALL_LETTERS" k_SMALL_LETTERS, conB K "GREAT_LETTERS" k_GREAT_LETTERS, conB K "NAME_SIGNS" k_NAME_SIGNS, conB K "BARRED" k_BARRED, conB K "LONGEST_NAME" k_LONGEST_NAME, conB K "LEAST_NUMBER" k_LEAST_NUMBER, conB K "GREATEST_NUMBER" k_GREATEST_NUMBER, conB K "ALL_NUMBERS" k_ALL_NUMBERS]
def exs (K : PySem.W.Frag) : Bool := (exL K).all id
abbrev hk : PySem.W.Hook := hookV1 1000 fas fns exs
def ob (s : PySem.W.SharedT) : He.AlD × Bool := obsV1 1000 fas fns exs (HandSHeadRun.getT s)
theorem ob_eq (s : PySem.W.SharedT) : ob s = hk.obs s.abs := obsV1_eq (HandSHeadRun.getT_eq s)
def loose0 : List PySem.Str := ["SMALL_LETTERS", "GREAT_LETTERS", "NAME_SIGNS", "BARRED", "LONGEST_NAME", "LEAST_NUMBER", "GREATEST_NUMBER", "ALL_NUMBERS", "is_integer", "is_number", "begins_name", "is_small", "is_great", "is_name", "is_label"]
def loose1 : List PySem.Str := ["is_maker", "wrapped", "SwornError", "Broken", "Hidden", "NoIndex", "NoModule", "NoName", "NoText", "NoValues", "NotFit", "NotKind", "NotProgram", "NotTyped", "NotWhole"]
def loose2 : List PySem.Str := ["Nothing", "Stuck", "TooGreat", "TooMany", "Twice", "Untaken", "UseRing", "Wrong", "_law_bag", "_law_take", "_law_some", "_law_alike", "_law_is_int", "_law_wrapped", "_law_barred"]
def loose3 : List PySem.Str := ["_law_small_signs", "_law_great_signs", "_law_figures", "_law_is_spelt", "_law_is_small", "_law_is_great", "_law_sides", "_law_is_name", "_law_is_maker", "_law_is_number", "_law_odd", "_law_classes_of", "_law_error_rows", "_law_are_errors_right", "_law_near_name"]
def loose4 : List PySem.Str := ["_law_is_named"]
def loose : List PySem.Str := loose0 ++ (loose1 ++ (loose2 ++ (loose3 ++ (loose4))))
section
open PySem.W HandSHeadRun
theorem headA (w : World) (os : OsState) : (endF (stepQ (denQ tabQ) RR.prog w) 8000 RR.prog w os).map (fun s => (looksF RR.prog (boot_heap w.params) s.abs, seenQ (PySem.W.view RR.prog [64]) loose (importedModules RR.prog.main.body) (fun s => xlAt (PySem.W.view RR.prog [64]) [] s && recOk RR.toRowW.records s) s.abs)) = some (true, openGood (PySem.W.view RR.prog [64]) loose) := by
  kernel_rfl
theorem headB (w : World) (os : OsState) : (endF (stepQ (denQ tabQ) RR.prog w) 8000 RR.prog w os).map ob = some (hk.val w) := by
  kernel_rfl
theorem run (w : World) : RunEq RR (PySem.W.view RR.prog [64]) hk ob 8000 loose w := fun os => map_three (headA w os) (headB w os)
end
/-! what the defs are told -/
def ctK (K : PySem.W.Frag) : Nat → Option Addr
  | _ => none
section
variable {P : Program} {w : World} {K : PySem.W.Frag} {h : Heap} {mg : Str → Option Value}
theorem w_Nothing (X : K.In h) (G : h.Ns mainGlobals mg) (S : He.SaysD fas fns K) (e : exs K = true) : ∀ base, KMake P w K mg base "Nothing" := fun base => ownN_of (qual := "Nothing.__init__") (pr := defArgs (clsT 32 0)) (body := defBody (clsT 32 0)) (sc := defScope (clsT 32 0)) X G (S.fact 46) (all_at (l := exL K) e 0) (all_at (l := exL K) e 1) (S.fact 66) (all_at (l := exL K) e 2) (S.def_ 45) ⟨rfl, rfl, rfl, by decide +kernel, rfl, by decide +kernel, by decide +kernel⟩ (fun _ _ _ _ _ _ us hl => match us, hl with | [_], _ => rfl) (fun _ _ _ _ _ _ => pass_body)
theorem g_Broken (X : K.In h) (G : h.Ns mainGlobals mg) (S : He.SaysD fas fns K) (e : exs K = true) : ∀ base, KErr P w K mg base "Broken" ["index"] := fun base => kErr_of (ownX_one (qual := "Broken.__init__") (pr := defArgs (clsT 20 0)) (body := defBody (clsT 20 0)) (sc := defScope (clsT 20 0)) X G (S.fact 34) (all_at (l := exL K) e 3) (S.fact 67) (all_at (l := exL K) e 4) (S.fact 68) (S.def_ 33) ⟨rfl, rfl, rfl, by decide +kernel, rfl, by decide +kernel, by decide +kernel⟩ (fun _ _ _ _ _ _ us hl => match us, hl with | [_, _], _ => rfl) (fun _ _ _ _ _ _ => (pss_one (ps_ost (pe_var rfl (by first | exact Or.inl rfl | exact Or.inr (Or.inl rfl) | exact Or.inr (Or.inr rfl))) (pe_var rfl (by first | exact Or.inl rfl | exact Or.inr (Or.inl rfl) | exact Or.inr (Or.inr rfl))))))) (all_at (l := exL K) e 5) (fun f m => by
    rw [List.mem_singleton] at m
    subst m
    exact (S.fact 68))
theorem g_Hidden (X : K.In h) (G : h.Ns mainGlobals mg) (S : He.SaysD fas fns K) (e : exs K = true) : ∀ base, KErr P w K mg base "Hidden" ["module", "name"] := fun base => kErr_of (ownX_two (qual := "Hidden.__init__") (pr := defArgs (clsT 21 0)) (body := defBody (clsT 21 0)) (sc := defScope (clsT 21 0)) X G (S.fact 35) (all_at (l := exL K) e 6) (S.fact 69) (all_at (l := exL K) e 7) (S.fact 70) (S.fact 71) (S.def_ 34) ⟨rfl, rfl, rfl, by decide +kernel, rfl, by decide +kernel, by decide +kernel⟩ (fun _ _ _ _ _ _ us hl => match us, hl with | [_, _, _], _ => rfl) (fun _ _ _ _ _ _ => (pss_cons (ps_ost (pe_var rfl (by first | exact Or.inl rfl | exact Or.inr (Or.inl rfl) | exact Or.inr (Or.inr rfl))) (pe_var rfl (by first | exact Or.inl rfl | exact Or.inr (Or.inl rfl) | exact Or.inr (Or.inr rfl)))) (pss_one (ps_ost (pe_var rfl (by first | exact Or.inl rfl | exact Or.inr (Or.inl rfl) | exact Or.inr (Or.inr rfl))) (pe_var rfl (by first | exact Or.inl rfl | exact Or.inr (Or.inl rfl) | exact Or.inr (Or.inr rfl)))))))) (all_at (l := exL K) e 8) (fun f m => by
    simp only [List.mem_cons, List.not_mem_nil, or_false] at m
    rcases m with rfl | rfl
    · exact (S.fact 70)
    · exact (S.fact 71))
theorem g_NoIndex (X : K.In h) (G : h.Ns mainGlobals mg) (S : He.SaysD fas fns K) (e : exs K = true) : ∀ base, KErr P w K mg base "NoIndex" ["index"] := fun base => kErr_of (ownX_one (qual := "NoIndex.__init__") (pr := defArgs (clsT 22 0)) (body := defBody (clsT 22 0)) (sc := defScope (clsT 22 0)) X G (S.fact 36) (all_at (l := exL K) e 9) (S.fact 72) (all_at (l := exL K) e 10) (S.fact 73) (S.def_ 35) ⟨rfl, rfl, rfl, by decide +kernel, rfl, by decide +kernel, by decide +kernel⟩ (fun _ _ _ _ _ _ us hl => match us, hl with | [_, _], _ => rfl) (fun _ _ _ _ _ _ => (pss_one (ps_ost (pe_var rfl (by first | exact Or.inl rfl | exact Or.inr (Or.inl rfl) | exact Or.inr (Or.inr rfl))) (pe_var rfl (by first | exact Or.inl rfl | exact Or.inr (Or.inl rfl) | exact Or.inr (Or.inr rfl))))))) (all_at (l := exL K) e 11) (fun f m => by
    rw [List.mem_singleton] at m
    subst m
    exact (S.fact 73))
theorem g_NoModule (X : K.In h) (G : h.Ns mainGlobals mg) (S : He.SaysD fas fns K) (e : exs K = true) : ∀ base, KErr P w K mg base "NoModule" ["module", "name"] := fun base => kErr_of (ownX_two (qual := "NoModule.__init__") (pr := defArgs (clsT 23 0)) (body := defBody (clsT 23 0)) (sc := defScope (clsT 23 0)) X G (S.fact 37) (all_at (l := exL K) e 12) (S.fact 74) (all_at (l := exL K) e 13) (S.fact 75) (S.fact 76) (S.def_ 36) ⟨rfl, rfl, rfl, by decide +kernel, rfl, by decide +kernel, by decide +kernel⟩ (fun _ _ _ _ _ _ us hl => match us, hl with | [_, _, _], _ => rfl) (fun _ _ _ _ _ _ => (pss_cons (ps_ost (pe_var rfl (by first | exact Or.inl rfl | exact Or.inr (Or.inl rfl) | exact Or.inr (Or.inr rfl))) (pe_var rfl (by first | exact Or.inl rfl | exact Or.inr (Or.inl rfl) | exact Or.inr (Or.inr rfl)))) (pss_one (ps_ost (pe_var rfl (by first | exact Or.inl rfl | exact Or.inr (Or.inl rfl) | exact Or.inr (Or.inr rfl))) (pe_var rfl (by first | exact Or.inl rfl | exact Or.inr (Or.inl rfl) | exact Or.inr (Or.inr rfl)))))))) (all_at (l := exL K) e 14) (fun f m => by
    simp only [List.mem_cons, List.not_mem_nil, or_false] at m
    rcases m with rfl | rfl
    · exact (S.fact 75)
    · exact (S.fact 76))
theorem g_NoName (X : K.In h) (G : h.Ns mainGlobals mg) (S : He.SaysD fas fns K) (e : exs K = true) : ∀ base, KErr P w K mg base "NoName" ["module", "name"] := fun base => kErr_of (ownX_two (qual := "NoName.__init__") (pr := defArgs (clsT 24 0)) (body := defBody (clsT 24 0)) (sc := defScope (clsT 24 0)) X G (S.fact 38) (all_at (l := exL K) e 15) (S.fact 77) (all_at (l := exL K) e 16) (S.fact 78) (S.fact 79) (S.def_ 37) ⟨rfl, rfl, rfl, by decide +kernel, rfl, by decide +kernel, by decide +kernel⟩ (fun _ _ _ _ _ _ us hl => match us, hl with | [_, _, _], _ => rfl) (fun _ _ _ _ _ _ => (pss_cons (ps_ost (pe_var rfl (by first | exact Or.inl rfl | exact Or.inr (Or.inl rfl) | exact Or.inr (Or.inr rfl))) (pe_var rfl (by first | exact Or.inl rfl | exact Or.inr (Or.inl rfl) | exact Or.inr (Or.inr rfl)))) (pss_one (ps_ost (pe_var rfl (by first | exact Or.inl rfl | exact Or.inr (Or.inl rfl) | exact Or.inr (Or.inr rfl))) (pe_var rfl (by first | exact Or.inl rfl | exact Or.inr (Or.inl rfl) | exact Or.inr (Or.inr rfl)))))))) (all_at (l := exL K) e 17) (fun f m => by
    simp only [List.mem_cons, List.not_mem_nil, or_false] at m
    rcases m with rfl | rfl
    · exact (S.fact 78)
    · exact (S.fact 79))
theorem g_NoText (X : K.In h) (G : h.Ns mainGlobals mg) (S : He.SaysD fas fns K) (e : exs K = true) : ∀ base, KErr P w K mg base "NoText" ["line", "column"] := fun base => kErr_of (ownX_two (qual := "NoText.__init__") (pr := defArgs (clsT 25 0)) (body := defBody (clsT 25 0)) (sc := defScope (clsT 25 0)) X G (S.fact 39) (all_at (l := exL K) e 18) (S.fact 80) (all_at (l := exL K) e 19) (S.fact 81) (S.fact 82) (S.def_ 38) ⟨rfl, rfl, rfl, by decide +kernel, rfl, by decide +kernel, by decide +kernel⟩ (fun _ _ _ _ _ _ us hl => match us, hl with | [_, _, _], _ => rfl) (fun _ _ _ _ _ _ => (pss_cons (ps_ost (pe_var rfl (by first | exact Or.inl rfl | exact Or.inr (Or.inl rfl) | exact Or.inr (Or.inr rfl))) (pe_var rfl (by first | exact Or.inl rfl | exact Or.inr (Or.inl rfl) | exact Or.inr (Or.inr rfl)))) (pss_one (ps_ost (pe_var rfl (by first | exact Or.inl rfl | exact Or.inr (Or.inl rfl) | exact Or.inr (Or.inr rfl))) (pe_var rfl (by first | exact Or.inl rfl | exact Or.inr (Or.inl rfl) | exact Or.inr (Or.inr rfl)))))))) (all_at (l := exL K) e 20) (fun f m => by
    simp only [List.mem_cons, List.not_mem_nil, or_false] at m
    rcases m with rfl | rfl
    · exact (S.fact 81)
    · exact (S.fact 82))
theorem g_NoValues (X : K.In h) (G : h.Ns mainGlobals mg) (S : He.SaysD fas fns K) (e : exs K = true) : ∀ base, KErr P w K mg base "NoValues" ["module", "name"] := fun base => kErr_of (ownX_two (qual := "NoValues.__init__") (pr := defArgs (clsT 26 0)) (body := defBody (clsT 26 0)) (sc := defScope (clsT 26 0)) X G (S.fact 40) (all_at (l := exL K) e 21) (S.fact 83) (all_at (l := exL K) e 22) (S.fact 84) (S.fact 85) (S.def_ 39) ⟨rfl, rfl, rfl, by decide +kernel, rfl, by decide +kernel, by decide +kernel⟩ (fun _ _ _ _ _ _ us hl => match us, hl with | [_, _, _], _ => rfl) (fun _ _ _ _ _ _ => (pss_cons (ps_ost (pe_var rfl (by first | exact Or.inl rfl | exact Or.inr (Or.inl rfl) | exact Or.inr (Or.inr rfl))) (pe_var rfl (by first | exact Or.inl rfl | exact Or.inr (Or.inl rfl) | exact Or.inr (Or.inr rfl)))) (pss_one (ps_ost (pe_var rfl (by first | exact Or.inl rfl | exact Or.inr (Or.inl rfl) | exact Or.inr (Or.inr rfl))) (pe_var rfl (by first | exact Or.inl rfl | exact Or.inr (Or.inl rfl) | exact Or.inr (Or.inr rfl)))))))) (all_at (l := exL K) e 23) (fun f m => by
    simp only [List.mem_cons, List.not_mem_nil, or_false] at m
    rcases m with rfl | rfl
    · exact (S.fact 84)
    · exact (S.fact 85))
theorem g_NotFit (X : K.In h) (G : h.Ns mainGlobals mg) (S : He.SaysD fas fns K) (e : exs K = true) : ∀ base, KErr P w K mg base "NotFit" ["module", "name"] := fun base => kErr_of (ownX_two (qual := "NotFit.__init__") (pr := defArgs (clsT 27 0)) (body := defBody (clsT 27 0)) (sc := defScope (clsT 27 0)) X G (S.fact 41) (all_at (l := exL K) e 24) (S.fact 86) (all_at (l := exL K) e 25) (S.fact 87) (S.fact 88) (S.def_ 40) ⟨rfl, rfl, rfl, by decide +kernel, rfl, by decide +kernel, by decide +kernel⟩ (fun _ _ _ _ _ _ us hl => match us, hl with | [_, _, _], _ => rfl) (fun _ _ _ _ _ _ => (pss_cons (ps_ost (pe_var rfl (by first | exact Or.inl rfl | exact Or.inr (Or.inl rfl) | exact Or.inr (Or.inr rfl))) (pe_var rfl (by first | exact Or.inl rfl | exact Or.inr (Or.inl rfl) | exact Or.inr (Or.inr rfl)))) (pss_one (ps_ost (pe_var rfl (by first | exact Or.inl rfl | exact Or.inr (Or.inl rfl) | exact Or.inr (Or.inr rfl))) (pe_var rfl (by first | exact Or.inl rfl | exact Or.inr (Or.inl rfl) | exact Or.inr (Or.inr rfl)))))))) (all_at (l := exL K) e 26) (fun f m => by
    simp only [List.mem_cons, List.not_mem_nil, or_false] at m
    rcases m with rfl | rfl
    · exact (S.fact 87)
    · exact (S.fact 88))
theorem g_NotTyped (X : K.In h) (G : h.Ns mainGlobals mg) (S : He.SaysD fas fns K) (e : exs K = true) : ∀ base, KErr P w K mg base "NotTyped" ["lot"] := fun base => kErr_of (ownX_one (qual := "NotTyped.__init__") (pr := defArgs (clsT 30 0)) (body := defBody (clsT 30 0)) (sc := defScope (clsT 30 0)) X G (S.fact 44) (all_at (l := exL K) e 33) (S.fact 91) (all_at (l := exL K) e 34) (S.fact 92) (S.def_ 43) ⟨rfl, rfl, rfl, by decide +kernel, rfl, by decide +kernel, by decide +kernel⟩ (fun _ _ _ _ _ _ us hl => match us, hl with | [_, _], _ => rfl) (fun _ _ _ _ _ _ => (pss_one (ps_ost (pe_var rfl (by first | exact Or.inl rfl | exact Or.inr (Or.inl rfl) | exact Or.inr (Or.inr rfl))) (pe_var rfl (by first | exact Or.inl rfl | exact Or.inr (Or.inl rfl) | exact Or.inr (Or.inr rfl))))))) (all_at (l := exL K) e 35) (fun f m => by
    rw [List.mem_singleton] at m
    subst m
    exact (S.fact 92))
theorem g_NotWhole (X : K.In h) (G : h.Ns mainGlobals mg) (S : He.SaysD fas fns K) (e : exs K = true) : ∀ base, KErr P w K mg base "NotWhole" ["place", "pattern"] := fun base => kErr_of (ownX_two (qual := "NotWhole.__init__") (pr := defArgs (clsT 31 0)) (body := defBody (clsT 31 0)) (sc := defScope (clsT 31 0)) X G (S.fact 45) (all_at (l := exL K) e 36) (S.fact 93) (all_at (l := exL K) e 37) (S.fact 94) (S.fact 95) (S.def_ 44) ⟨rfl, rfl, rfl, by decide +kernel, rfl, by decide +kernel, by decide +kernel⟩ (fun _ _ _ _ _ _ us hl => match us, hl with | [_, _, _], _ => rfl) (fun _ _ _ _ _ _ => (pss_cons (ps_ost (pe_var rfl (by first | exact Or.inl rfl | exact Or.inr (Or.inl rfl) | exact Or.inr (Or.inr rfl))) (pe_var rfl (by first | exact Or.inl rfl | exact Or.inr (Or.inl rfl) | exact Or.inr (Or.inr rfl)))) (pss_one (ps_ost (pe_var rfl (by first | exact Or.inl rfl | exact Or.inr (Or.inl rfl) | exact Or.inr (Or.inr rfl))) (pe_var rfl (by first | exact Or.inl rfl | exact Or.inr (Or.inl rfl) | exact Or.inr (Or.inr rfl)))))))) (all_at (l := exL K) e 38) (fun f m => by
    simp only [List.mem_cons, List.not_mem_nil, or_false] at m
    rcases m with rfl | rfl
    · exact (S.fact 94)
    · exact (S.fact 95))
theorem g_TooGreat (X : K.In h) (G : h.Ns mainGlobals mg) (S : He.SaysD fas fns K) (e : exs K = true) : ∀ base, KErr P w K mg base "TooGreat" ["most"] := fun base => kErr_of (ownX_one (qual := "TooGreat.__init__") (pr := defArgs (clsT 34 0)) (body := defBody (clsT 34 0)) (sc := defScope (clsT 34 0)) X G (S.fact 48) (all_at (l := exL K) e 42) (S.fact 97) (all_at (l := exL K) e 43) (S.fact 98) (S.def_ 47) ⟨rfl, rfl, rfl, by decide +kernel, rfl, by decide +kernel, by decide +kernel⟩ (fun _ _ _ _ _ _ us hl => match us, hl with | [_, _], _ => rfl) (fun _ _ _ _ _ _ => (pss_one (ps_ost (pe_var rfl (by first | exact Or.inl rfl | exact Or.inr (Or.inl rfl) | exact Or.inr (Or.inr rfl))) (pe_var rfl (by first | exact Or.inl rfl | exact Or.inr (Or.inl rfl) | exact Or.inr (Or.inr rfl))))))) (all_at (l := exL K) e 44) (fun f m => by
    rw [List.mem_singleton] at m
    subst m
    exact (S.fact 98))
theorem g_TooMany (X : K.In h) (G : h.Ns mainGlobals mg) (S : He.SaysD fas fns K) (e : exs K = true) : ∀ base, KErr P w K mg base "TooMany" ["most"] := fun base => kErr_of (ownX_one (qual := "TooMany.__init__") (pr := defArgs (clsT 35 0)) (body := defBody (clsT 35 0)) (sc := defScope (clsT 35 0)) X G (S.fact 49) (all_at (l := exL K) e 45) (S.fact 99) (all_at (l := exL K) e 46) (S.fact 100) (S.def_ 48) ⟨rfl, rfl, rfl, by decide +kernel, rfl, by decide +kernel, by decide +kernel⟩ (fun _ _ _ _ _ _ us hl => match us, hl with | [_, _], _ => rfl) (fun _ _ _ _ _ _ => (pss_one (ps_ost (pe_var rfl (by first | exact Or.inl rfl | exact Or.inr (Or.inl rfl) | exact Or.inr (Or.inr rfl))) (pe_var rfl (by first | exact Or.inl rfl | exact Or.inr (Or.inl rfl) | exact Or.inr (Or.inr rfl))))))) (all_at (l := exL K) e 47) (fun f m => by
    rw [List.mem_singleton] at m
    subst m
    exact (S.fact 100))
theorem g_Twice (X : K.In h) (G : h.Ns mainGlobals mg) (S : He.SaysD fas fns K) (e : exs K = true) : ∀ base, KErr P w K mg base "Twice" ["module", "name"] := fun base => kErr_of (ownX_two (qual := "Twice.__init__") (pr := defArgs (clsT 36 0)) (body := defBody (clsT 36 0)) (sc := defScope (clsT 36 0)) X G (S.fact 50) (all_at (l := exL K) e 48) (S.fact 101) (all_at (l := exL K) e 49) (S.fact 102) (S.fact 103) (S.def_ 49) ⟨rfl, rfl, rfl, by decide +kernel, rfl, by decide +kernel, by decide +kernel⟩ (fun _ _ _ _ _ _ us hl => match us, hl with | [_, _, _], _ => rfl) (fun _ _ _ _ _ _ => (pss_cons (ps_ost (pe_var rfl (by first | exact Or.inl rfl | exact Or.inr (Or.inl rfl) | exact Or.inr (Or.inr rfl))) (pe_var rfl (by first | exact Or.inl rfl | exact Or.inr (Or.inl rfl) | exact Or.inr (Or.inr rfl)))) (pss_one (ps_ost (pe_var rfl (by first | exact Or.inl rfl | exact Or.inr (Or.inl rfl) | exact Or.inr (Or.inr rfl))) (pe_var rfl (by first | exact Or.inl rfl | exact Or.inr (Or.inl rfl) | exact Or.inr (Or.inr rfl)))))))) (all_at (l := exL K) e 50) (fun f m => by
    simp only [List.mem_cons, List.not_mem_nil, or_false] at m
    rcases m with rfl | rfl
    · exact (S.fact 102)
    · exact (S.fact 103))
theorem g_UseRing (X : K.In h) (G : h.Ns mainGlobals mg) (S : He.SaysD fas fns K) (e : exs K = true) : ∀ base, KErr P w K mg base "UseRing" ["names"] := fun base => kErr_of (ownX_one (qual := "UseRing.__init__") (pr := defArgs (clsT 38 0)) (body := defBody (clsT 38 0)) (sc := defScope (clsT 38 0)) X G (S.fact 52) (all_at (l := exL K) e 54) (S.fact 105) (all_at (l := exL K) e 55) (S.fact 106) (S.def_ 51) ⟨rfl, rfl, rfl, by decide +kernel, rfl, by decide +kernel, by decide +kernel⟩ (fun _ _ _ _ _ _ us hl => match us, hl with | [_, _], _ => rfl) (fun _ _ _ _ _ _ => (pss_one (ps_ost (pe_var rfl (by first | exact Or.inl rfl | exact Or.inr (Or.inl rfl) | exact Or.inr (Or.inr rfl))) (pe_var rfl (by first | exact Or.inl rfl | exact Or.inr (Or.inl rfl) | exact Or.inr (Or.inr rfl))))))) (all_at (l := exL K) e 56) (fun f m => by
    rw [List.mem_singleton] at m
    subst m
    exact (S.fact 106))
theorem g_Wrong (X : K.In h) (G : h.Ns mainGlobals mg) (S : He.SaysD fas fns K) (e : exs K = true) : ∀ base, KErr P w K mg base "Wrong" ["place"] := fun base => kErr_of (ownX_one (qual := "Wrong.__init__") (pr := defArgs (clsT 39 0)) (body := defBody (clsT 39 0)) (sc := defScope (clsT 39 0)) X G (S.fact 53) (all_at (l := exL K) e 57) (S.fact 107) (all_at (l := exL K) e 58) (S.fact 108) (S.def_ 52) ⟨rfl, rfl, rfl, by decide +kernel, rfl, by decide +kernel, by decide +kernel⟩ (fun _ _ _ _ _ _ us hl => match us, hl with | [_, _], _ => rfl) (fun _ _ _ _ _ _ => (pss_one (ps_ost (pe_var rfl (by first | exact Or.inl rfl | exact Or.inr (Or.inl rfl) | exact Or.inr (Or.inr rfl))) (pe_var rfl (by first | exact Or.inl rfl | exact Or.inr (Or.inl rfl) | exact Or.inr (Or.inr rfl))))))) (all_at (l := exL K) e 59) (fun f m => by
    rw [List.mem_singleton] at m
    subst m
    exact (S.fact 108))
theorem h_NotKind (X : K.In h) (G : h.Ns mainGlobals mg) (S : He.SaysD fas fns K) (e : exs K = true) : ∀ base, KErr0 P w K mg base "NotKind" := fun base => kErr0_of (qual := "NotKind.__init__") (pr := defArgs (clsT 28 0)) (body := defBody (clsT 28 0)) (sc := defScope (clsT 28 0)) X G (S.fact 42) (all_at (l := exL K) e 27) (all_at (l := exL K) e 29) (S.fact 89) (all_at (l := exL K) e 28) (S.def_ 41) ⟨rfl, rfl, rfl, by decide +kernel, rfl, by decide +kernel, by decide +kernel⟩ (fun _ _ _ _ _ _ us hl => match us, hl with | [_], _ => rfl) (fun _ _ _ _ _ _ => pass_body)
theorem h_NotProgram (X : K.In h) (G : h.Ns mainGlobals mg) (S : He.SaysD fas fns K) (e : exs K = true) : ∀ base, KErr0 P w K mg base "NotProgram" := fun base => kErr0_of (qual := "NotProgram.__init__") (pr := defArgs (clsT 29 0)) (body := defBody (clsT 29 0)) (sc := defScope (clsT 29 0)) X G (S.fact 43) (all_at (l := exL K) e 30) (all_at (l := exL K) e 32) (S.fact 90) (all_at (l := exL K) e 31) (S.def_ 42) ⟨rfl, rfl, rfl, by decide +kernel, rfl, by decide +kernel, by decide +kernel⟩ (fun _ _ _ _ _ _ us hl => match us, hl with | [_], _ => rfl) (fun _ _ _ _ _ _ => pass_body)
theorem h_Nothing (X : K.In h) (G : h.Ns mainGlobals mg) (S : He.SaysD fas fns K) (e : exs K = true) : ∀ base, KErr0 P w K mg base "Nothing" := fun base => kErr0_of (qual := "Nothing.__init__") (pr := defArgs (clsT 32 0)) (body := defBody (clsT 32 0)) (sc := defScope (clsT 32 0)) X G (S.fact 46) (all_at (l := exL K) e 0) (all_at (l := exL K) e 1) (S.fact 66) (all_at (l := exL K) e 2) (S.def_ 45) ⟨rfl, rfl, rfl, by decide +kernel, rfl, by decide +kernel, by decide +kernel⟩ (fun _ _ _ _ _ _ us hl => match us, hl with | [_], _ => rfl) (fun _ _ _ _ _ _ => pass_body)
theorem h_Stuck (X : K.In h) (G : h.Ns mainGlobals mg) (S : He.SaysD fas fns K) (e : exs K = true) : ∀ base, KErr0 P w K mg base "Stuck" := fun base => kErr0_of (qual := "Stuck.__init__") (pr := defArgs (clsT 33 0)) (body := defBody (clsT 33 0)) (sc := defScope (clsT 33 0)) X G (S.fact 47) (all_at (l := exL K) e 39) (all_at (l := exL K) e 41) (S.fact 96) (all_at (l := exL K) e 40) (S.def_ 46) ⟨rfl, rfl, rfl, by decide +kernel, rfl, by decide +kernel, by decide +kernel⟩ (fun _ _ _ _ _ _ us hl => match us, hl with | [_], _ => rfl) (fun _ _ _ _ _ _ => pass_body)
theorem h_Untaken (X : K.In h) (G : h.Ns mainGlobals mg) (S : He.SaysD fas fns K) (e : exs K = true) : ∀ base, KErr0 P w K mg base "Untaken" := fun base => kErr0_of (qual := "Untaken.__init__") (pr := defArgs (clsT 37 0)) (body := defBody (clsT 37 0)) (sc := defScope (clsT 37 0)) X G (S.fact 51) (all_at (l := exL K) e 51) (all_at (l := exL K) e 53) (S.fact 104) (all_at (l := exL K) e 52) (S.def_ 50) ⟨rfl, rfl, rfl, by decide +kernel, rfl, by decide +kernel, by decide +kernel⟩ (fun _ _ _ _ _ _ us hl => match us, hl with | [_], _ => rfl) (fun _ _ _ _ _ _ => pass_body)
theorem facts (X : K.In h) (G : h.Ns mainGlobals mg) (S : He.SaysD fas fns K) (e : exs K = true) : Facts P w K mg (ctK K) where
  w_Nothing := w_Nothing X G S e
  g_Broken := g_Broken X G S e
  g_Hidden := g_Hidden X G S e
  g_NoIndex := g_NoIndex X G S e
  g_NoModule := g_NoModule X G S e
  g_NoName := g_NoName X G S e
  g_NoText := g_NoText X G S e
  g_NoValues := g_NoValues X G S e
  g_NotFit := g_NotFit X G S e
  g_NotTyped := g_NotTyped X G S e
  g_NotWhole := g_NotWhole X G S e
  g_TooGreat := g_TooGreat X G S e
  g_TooMany := g_TooMany X G S e
  g_Twice := g_Twice X G S e
  g_UseRing := g_UseRing X G S e
  g_Wrong := g_Wrong X G S e
  h_NotKind := h_NotKind X G S e
  h_NotProgram := h_NotProgram X G S e
  h_Nothing := h_Nothing X G S e
  h_Stuck := h_Stuck X G S e
  h_Untaken := h_Untaken X G S e
  i_Broken := isEB_ok X G (all_at (l := exL K) e 60) (S.fact 34) (all_at (l := exL K) e 61)
  i_Hidden := isEB_ok X G (all_at (l := exL K) e 60) (S.fact 35) (all_at (l := exL K) e 62)
  i_NoIndex := isEB_ok X G (all_at (l := exL K) e 60) (S.fact 36) (all_at (l := exL K) e 63)
  i_NoModule := isEB_ok X G (all_at (l := exL K) e 60) (S.fact 37) (all_at (l := exL K) e 64)
  i_NoName := isEB_ok X G (all_at (l := exL K) e 60) (S.fact 38) (all_at (l := exL K) e 65)
  i_NoText := isEB_ok X G (all_at (l := exL K) e 60) (S.fact 39) (all_at (l := exL K) e 66)
  i_NoValues := isEB_ok X G (all_at (l := exL K) e 60) (S.fact 40) (all_at (l := exL K) e 67)
  i_NotFit := isEB_ok X G (all_at (l := exL K) e 60) (S.fact 41) (all_at (l := exL K) e 68)
  i_NotKind := isEB_ok X G (all_at (l := exL K) e 60) (S.fact 42) (all_at (l := exL K) e 69)
  i_NotProgram := isEB_ok X G (all_at (l := exL K) e 60) (S.fact 43) (all_at (l := exL K) e 70)
  i_NotTyped := isEB_ok X G (all_at (l := exL K) e 60) (S.fact 44) (all_at (l := exL K) e 71)
  i_NotWhole := isEB_ok X G (all_at (l := exL K) e 60) (S.fact 45) (all_at (l := exL K) e 72)
  i_Nothing := isEB_ok X G (all_at (l := exL K) e 60) (S.fact 46) (all_at (l := exL K) e 73)
  i_Stuck := isEB_ok X G (all_at (l := exL K) e 60) (S.fact 47) (all_at (l := exL K) e 74)
  i_SwornError := isEB_ok X G (all_at (l := exL K) e 60) (S.fact 33) (all_at (l := exL K) e 75)
  i_TooGreat := isEB_ok X G (all_at (l := exL K) e 60) (S.fact 48) (all_at (l := exL K) e 76)
  i_TooMany := isEB_ok X G (all_at (l := exL K) e 60) (S.fact 49) (all_at (l := exL K) e 77)
  i_Twice := isEB_ok X G (all_at (l := exL K) e 60) (S.fact 50) (all_at (l := exL K) e 78)
  i_Untaken := isEB_ok X G (all_at (l := exL K) e 60) (S.fact 51) (all_at (l := exL K) e 79)
  i_UseRing := isEB_ok X G (all_at (l := exL K) e 60) (S.fact 52) (all_at (l := exL K) e 80)
  i_Wrong := isEB_ok X G (all_at (l := exL K) e 60) (S.fact 53) (all_at (l := exL K) e 81)
  i_ValueError := isBB_ok (all_at (l := exL K) e 60) (all_at (l := exL K) e 82)
  sysm := (all_at (l := exL K) e 83)
  a0 := defAt_of X G (S.fact 0) (S.def_ 0)
  a1 := defAt_of X G (S.fact 1) (S.def_ 1)
  a2 := defAt_of X G (S.fact 2) (S.def_ 2)
  a3 := defAt_of X G (S.fact 3) (S.def_ 3)
  a4 := defAt_of X G (S.fact 4) (S.def_ 4)
  a5 := defAt_of X G (S.fact 5) (S.def_ 5)
  a6 := defAt_of X G (S.fact 6) (S.def_ 6)
  a7 := defAt_of X G (S.fact 7) (S.def_ 7)
  a8 := defAt_of X G (S.fact 8) (S.def_ 8)
  a9 := defAt_of X G (S.fact 9) (S.def_ 9)
  a10 := defAt_of X G (S.fact 10) (S.def_ 10)
  a11 := defAt_of X G (S.fact 11) (S.def_ 11)
  a12 := defAt_of X G (S.fact 12) (S.def_ 12)
  a13 := defAt_of X G (S.fact 13) (S.def_ 13)
  a14 := defAt_of X G (S.fact 14) (S.def_ 14)
  a15 := defAt_of X G (S.fact 15) (S.def_ 15)
  a16 := defAt_of X G (S.fact 16) (S.def_ 16)
  a17 := defAt_of X G (S.fact 17) (S.def_ 17)
  a18 := defAt_of X G (S.fact 18) (S.def_ 18)
  a19 := defAt_of X G (S.fact 19) (S.def_ 19)
  a20 := defAt_of X G (S.fact 20) (S.def_ 20)
  a21 := defAt_of X G (S.fact 21) (S.def_ 21)
  a22 := defAt_of X G (S.fact 22) (S.def_ 22)
  a23 := defAt_of X G (S.fact 23) (S.def_ 23)
  a24 := defAt_of X G (S.fact 24) (S.def_ 24)
  a25 := defAt_of X G (S.fact 25) (S.def_ 25)
  a26 := defAt_of X G (S.fact 26) (S.def_ 26)
  a27 := defAt_of X G (S.fact 27) (S.def_ 27)
  a28 := defAt_of X G (S.fact 28) (S.def_ 28)
  a29 := defAt_of X G (S.fact 29) (S.def_ 29)
  a30 := defAt_of X G (S.fact 30) (S.def_ 30)
  a31 := defAt_of X G (S.fact 31) (S.def_ 31)
  a32 := defAt_of X G (S.fact 32) (S.def_ 32)
  c_ALL_NUMBERS := conB_ok X G (all_at (l := exL K) e 91)
  c_BARRED := conB_ok X G (all_at (l := exL K) e 87)
  c_GREATEST_NUMBER := conB_ok X G (all_at (l := exL K) e 90)
  c_GREAT_LETTERS := conB_ok X G (all_at (l := exL K) e 85)
  c_LEAST_NUMBER := conB_ok X G (all_at (l := exL K) e 89)
  c_LONGEST_NAME := conB_ok X G (all_at (l := exL K) e 88)
  c_NAME_SIGNS := conB_ok X G (all_at (l := exL K) e 86)
  c_SMALL_LETTERS := conB_ok X G (all_at (l := exL K) e 84)
  b_ValueError := He.free_ok X G (S.fact 54)
  b_abs := He.free_ok X G (S.fact 55)
  b_all := He.free_ok X G (S.fact 56)
  b_bool := He.free_ok X G (S.fact 57)
  b_enumerate := He.free_ok X G (S.fact 58)
  b_int := He.free_ok X G (S.fact 59)
  b_isinstance := He.free_ok X G (S.fact 60)
  b_len := He.free_ok X G (S.fact 61)
  b_range := He.free_ok X G (S.fact 62)
  b_repr := He.free_ok X G (S.fact 63)
  b_str := He.free_ok X G (S.fact 64)
  b_tuple := He.free_ok X G (S.fact 65)
end
end VI
set_option Elab.async false
set_option linter.all false
set_option maxRecDepth 100000
namespace VI
open PySem PySem.Spec PyProof.Rows L2

/-! a body evaluated -/
section
variable {g : W → W → Store → O} {h : W → Store → O} {a b : FE} {fa : FA} {t : FT} {p q : FS} {ρ ρ1 : Rho} {S S1 S2 S3 : Store} {x y z : W}
theorem ev_var {i : Nat} (e : ρ[i]? = some (some x)) : fVar i ρ S = .ok x S := by unfold fVar; rw [e]
theorem ev_f2 (ea : a ρ S = .ok x S1) (eb : b ρ S1 = .ok y S2) (e : g x y S2 = some (z, S3)) : f2 g a b ρ S = .ok z S3 := by
  unfold f2
  rw [ea]
  show (b ρ S1).bind _ = _
  rw [eb]
  show lift (g x y S2) = _
  rw [e]
  rfl
theorem ev_f1 (ea : a ρ S = .ok x S1) (e : h x S1 = some (z, S2)) : f1 h a ρ S = .ok z S2 := by
  unfold f1
  rw [ea]
  show lift (h x S1) = _
  rw [e]
  rfl
theorem ev_L {k : List W → Store → O} {ws : List W} (ea : fa ρ S = .ok ws S1) (e : k ws S1 = some (z, S2)) : fL k fa ρ S = .ok z S2 := by
  unfold fL
  rw [ea]
  show lift (k ws S1) = _
  rw [e]
  rfl
theorem ev_ac {ws : List W} (ea : a ρ S = .ok x S1) (er : fa ρ S1 = .ok ws S2) : fAc a fa ρ S = .ok (x :: ws) S2 := by
  unfold fAc
  rw [ea]
  show (fa ρ S1).bind _ = _
  rw [er]
  rfl
theorem ev_one (ea : a ρ S = .ok x S1) : fAc a fA0 ρ S = .ok [x] S1 := ev_ac ea rfl
theorem ev_seq (ep : p ρ S = .next ρ1 S1) : fSeq p q ρ S = q ρ1 S1 := by unfold fSeq; rw [ep]
theorem ev_test {k : Bool} (ea : a ρ S = .ok (.d (.bool k)) S1) : fTest a ρ S = .ok k S1 := by unfold fTest; rw [ea]; rfl
theorem ev_yes (et : t ρ S = .ok true S1) : fIf t p q ρ S = p ρ S1 := by unfold fIf; rw [et]; rfl
theorem ev_no (et : t ρ S = .ok false S1) : fIf t p q ρ S = q ρ S1 := by unfold fIf; rw [et]; rfl
theorem ev_asg {i : Nat} (ea : a ρ S = .ok x S1) : fAsg a (gtName i) ρ S = .next (ρ.set i (some x)) S1 := by unfold fAsg; rw [ea]; rfl
theorem ev_ret (ea : a ρ S = .ok x S1) : fRet a ρ S = .ret x S1 := by unfold fRet; rw [ea]; rfl
theorem ev_store {fo fi fe : FE} {o i v : W} {S4 : Store} (ee : fe ρ S = .ok v S1) (eo : fo ρ S1 = .ok o S2) (ei : fi ρ S2 = .ok i S3) (es : gSet o i v S3 = some S4) : fStore fe fo fi ρ S = .next ρ S4 := by
  unfold fStore
  rw [ee]
  show toS ρ (fo ρ S1) _ = _
  rw [eo]
  show toS ρ (fi ρ S2) _ = _
  rw [ei]
  show (match gSet o i v S3 with | some S4 => RF.next ρ S4 | none => RF.bad) = _
  rw [es]
theorem ev_augAt {fo fi fe : FE} {o i v : W} {old : PyData} {S4 S5 : Store} (eo : fo ρ S = .ok o S1) (ei : fi ρ S1 = .ok i S2) (eg : gAt o i S2 = some old) (ee : fe ρ S2 = .ok v S3) (ex : g (.d old) v S3 = some (z, S4)) (es : gSet o i z S4 = some S5) : fAugAt fo fi g fe ρ S = .next ρ S5 := by
  unfold fAugAt
  rw [eo]
  show toS ρ (fi ρ S1) _ = _
  rw [ei]
  show (match gAt o i S2 with | some old => _ | none => _) = _
  rw [eg]
  show toS ρ (fe ρ S2) _ = _
  rw [ee]
  show (match g (.d old) v S3 with | some (z, S4) => _ | none => _) = _
  rw [ex]
  show (match gSet o i z S4 with | some S5 => RF.next ρ S5 | none => RF.bad) = _
  rw [es]
theorem ev_I2 {C : Int → Int → Bool} {f : Int → Int → PyData} {i j : Int} (c : C i j = true) : gI2 C f (.d (.int i)) (.d (.int j)) S = some (.d (f i j), S) := by unfold gI2; exact if_pos c
theorem ev_mulA {i j : Int} (c : decide (i.natAbs.log2 + j.natAbs.log2 < 1000000) = true) : gMulA (.d (.int i)) (.d (.int j)) S = some (.d (.int (i * j)), S) := by
  show gMul (.d (.int i)) (.d (.int j)) S = _
  exact ev_I2 c
theorem ev_eqI {i j : Int} : gEq (.d (.int i)) (.d (.int j)) S = some (.d (.bool (decide (i = j))), S) := by
  have e : PyData.eqv (.int i) (.int j) = decide (i = j) := by
    by_cases h : i = j
    · subst h; simp [PyData.eqv]
    · simp [PyData.eqv, h]
  show (if SeqAt.shaped (.int i) = true ∧ SeqAt.shaped (.int j) = true then some (W.d (.bool (PyData.eqv (.int i) (.int j))), S) else none) = _
  rw [if_pos ⟨rfl, rfl⟩, e]
end
/-! the bag: what it holds, a number taken of it -/
structure Bag where
  b0 : Int
  b1 : Int
  b2 : Nat
  cs : List Int
def Bag.so (b : Bag) : SO := .lst [.int b.b0, .int b.b1, .int (b.b2 : Int), .list (b.cs.map PyData.int)]
structure Bag.Ok (b : Bag) : Prop where
  h0 : 0 ≤ b.b0
  h1 : 0 ≤ b.b1 ∧ b.b1 < 2147483647
  h2 : ∀ c ∈ b.cs, 0 ≤ c
noncomputable def bTake : FS := (fSeq (fIf (fTest (f2 gEq (f2 gIx (fVar 0) (fC (.int 0))) (fC (.int 0)))) (fSeq (fAsg (f2 gIx (f2 gAdd (fSl gSlA (f2 gIx (fVar 0) (fC (.int 3))) (fPart (f2 gIx (fVar 0) (fC (.int 2)))) fNoPart) (fL gLst (fAc (fC (.int 0)) fA0))) (fC (.int 0))) (gtName 2)) (fSeq (fAugAt (fVar 0) (fC (.int 2)) (gI2 (fun _ _ => true) fun i j => .int (i + j)) (fC (.int 1))) (fSeq (fIf (fTest (f2 gGe (fVar 2) (f2 gPow (fC (.int 10)) (fC (.int 18))))) (fStore (fVar 2) (fVar 0) (fC (.int 0))) fNext) (fSeq (fAsg (f2 gAdd (f2 gAdd (f2 gMulA (f2 gIx (fVar 0) (fC (.int 1))) (fC (.int 48271))) (f2 gMod (fL gIntA (fAc (fVar 2) fA0)) (fC (.int 2147483647)))) (f2 gMulA (fC (.int 7919)) (f2 gIx (fVar 0) (fC (.int 2))))) (gtName 3)) (fStore (f2 gMod (fL gIntA (fAc (fVar 3) fA0)) (fC (.int 2147483647))) (fVar 0) (fC (.int 1))))))) fNext) (fSeq (fIf (fTest (f2 gGt (f2 gIx (fVar 0) (fC (.int 0))) (fC (.int 0)))) (fSeq (fAsg (f2 gMod (fL gIntA (fAc (f2 gIx (fVar 0) (fC (.int 0))) fA0)) (fVar 1)) (gtName 4)) (fSeq (fStore (f2 gDiv (fL gIntA (fAc (f2 gIx (fVar 0) (fC (.int 0))) fA0)) (fVar 1)) (fVar 0) (fC (.int 0))) (fRet (fVar 4)))) fNext) (fSeq (fAsg (f2 gMod (fL gIntA (fAc (f2 gMulA (f2 gAdd (f2 gIx (fVar 0) (fC (.int 1))) (fC (.int 1))) (fC (.int 39373))) fA0)) (fC (.int 1000000007))) (gtName 5)) (fSeq (fAsg (f2 gMod (fL gIntA (fAc (f2 gMulA (f2 gMod (fL gIntA (fAc (f2 gMulA (fVar 5) (fVar 5)) fA0)) (fC (.int 998244353))) (fC (.int 30011))) fA0)) (fC (.int 998244353))) (gtName 6)) (fRet (f2 gMod (fL gIntA (fAc (f2 gDiv (fVar 6) (fC (.int 7))) fA0)) (fVar 1)))))))
/-- a number taken: what, and the bag then -/
def Bag.step (b : Bag) : Bag :=
  if b.b0 = 0 then ⟨if 1000000000000000000 ≤ b.cs.getD b.b2 0 then b.cs.getD b.b2 0 else 0, (b.b1 * 48271 + b.cs.getD b.b2 0 % 2147483647 + 7919 * ((b.b2 : Int) + 1)) % 2147483647, b.b2 + 1, b.cs⟩ else b
def Bag.take (b : Bag) (m : Int) : Int × Bag :=
  if 0 < b.step.b0 then (b.step.b0 % m, { b.step with b0 := b.step.b0 / m })
  else (((b.step.b1 + 1) * 39373 % 1000000007 * ((b.step.b1 + 1) * 39373 % 1000000007) % 998244353 * 30011 % 998244353 / 7) % m, b.step)
theorem bag_rd {ρ : Rho} {S : Store} {l : Nat} {b : Bag} (hρ : ρ[0]? = some (some (.loc l))) (hS : S[l]? = some b.so) :
    f2 gIx (fVar 0) (fC (.int 0)) ρ S = .ok (.d (.int b.b0)) S ∧ f2 gIx (fVar 0) (fC (.int 1)) ρ S = .ok (.d (.int b.b1)) S ∧ f2 gIx (fVar 0) (fC (.int 2)) ρ S = .ok (.d (.int (b.b2 : Int))) S ∧ f2 gIx (fVar 0) (fC (.int 3)) ρ S = .ok (.d (.list (b.cs.map PyData.int))) S := by
  have e : asSeq (.loc l) S = some [.int b.b0, .int b.b1, .int (b.b2 : Int), .list (b.cs.map PyData.int)] := by simp [asSeq, hS, Bag.so]
  refine ⟨?_, ?_, ?_, ?_⟩ <;> simp [f2, fVar, hρ, fC, R.bind, gIx, e, lift, atI, ixN]
def tkA : FS := (fSeq (fAsg (f2 gIx (f2 gAdd (fSl gSlA (f2 gIx (fVar 0) (fC (.int 3))) (fPart (f2 gIx (fVar 0) (fC (.int 2)))) fNoPart) (fL gLst (fAc (fC (.int 0)) fA0))) (fC (.int 0))) (gtName 2)) (fSeq (fAugAt (fVar 0) (fC (.int 2)) (gI2 (fun _ _ => true) fun i j => .int (i + j)) (fC (.int 1))) (fSeq (fIf (fTest (f2 gGe (fVar 2) (f2 gPow (fC (.int 10)) (fC (.int 18))))) (fStore (fVar 2) (fVar 0) (fC (.int 0))) fNext) (fSeq (fAsg (f2 gAdd (f2 gAdd (f2 gMulA (f2 gIx (fVar 0) (fC (.int 1))) (fC (.int 48271))) (f2 gMod (fL gIntA (fAc (fVar 2) fA0)) (fC (.int 2147483647)))) (f2 gMulA (fC (.int 7919)) (f2 gIx (fVar 0) (fC (.int 2))))) (gtName 3)) (fStore (f2 gMod (fL gIntA (fAc (fVar 3) fA0)) (fC (.int 2147483647))) (fVar 0) (fC (.int 1)))))))
/-- the next cell, 0 behind the last -/
theorem cut_cell {ρ : Rho} {S : Store} {l : Nat} {b : Bag} (hρ : ρ[0]? = some (some (.loc l))) (hS : S[l]? = some b.so) (hl : b.cs.length < 1000) :
    f2 gIx (f2 gAdd (fSl gSlA (f2 gIx (fVar 0) (fC (.int 3))) (fPart (f2 gIx (fVar 0) (fC (.int 2)))) fNoPart) (fL gLst (fAc (fC (.int 0)) fA0))) (fC (.int 0)) ρ S = .ok (.d (.int (b.cs.getD b.b2 0))) S := by
  obtain ⟨h0, h1, h2, h3⟩ := bag_rd hρ hS
  have hc : cutG (b.cs.map PyData.int) (some (b.b2 : Int)) none = (b.cs.drop b.b2).map PyData.int := by
    unfold cutG
    rw [List.map_drop]
    have e1 : HT.sIx (b.cs.map PyData.int).length 0 (some (b.b2 : Int)) = min b.b2 (b.cs.map PyData.int).length := HT.sIx_nat _ _ _
    rw [e1, HT.sIx_none, List.length_map]
    by_cases h : b.b2 ≤ b.cs.length
    · rw [Nat.min_eq_left h, List.take_of_length_le (by rw [List.length_drop, List.length_map]; exact Nat.le_refl _)]
    · rw [Nat.min_eq_right (by omega), List.drop_of_length_le (by rw [List.length_map]; exact Nat.le_refl _), List.drop_of_length_le (by rw [List.length_map]; omega)]
      rw [List.take_nil]
  have hd : ∀ xs : List Int, ((xs.map PyData.int) ++ [PyData.int 0])[0]? = some (.int (xs.getD 0 0)) := fun xs => by cases xs <;> simp
  have hg : (b.cs.drop b.b2).getD 0 0 = b.cs.getD b.b2 0 := by simp [List.getD_eq_getElem?_getD]
  have hz : (b.cs.drop b.b2).length + 1 ≤ lim := by rw [List.length_drop]; show _ ≤ 16777216; omega
  have e1 : fSl gSlA (f2 gIx (fVar 0) (fC (.int 3))) (fPart (f2 gIx (fVar 0) (fC (.int 2)))) fNoPart ρ S = .ok (.d (.list ((b.cs.drop b.b2).map PyData.int))) S := by
    simp only [fSl, h3, R.bind, fPart, h2, intOf, fNoPart, gSlA, gSl, asSeq, hc, lift]
  have e2 : fL gLst (fAc (fC (.int 0)) fA0) ρ S = .ok (.d (.list [.int 0])) S := ev_L (ev_one rfl) rfl
  have e3 : gAdd (.d (.list ((b.cs.drop b.b2).map PyData.int))) (.d (.list [.int 0])) S = some (.d (.list ((b.cs.drop b.b2).map PyData.int ++ [.int 0])), S) := by
    simp only [gAdd, asL, List.length_map, List.length_cons, List.length_nil]
    rw [if_pos hz]
  have e4 : atI ((b.cs.drop b.b2).map PyData.int ++ [PyData.int 0]) 0 = some (.int (b.cs.getD b.b2 0)) := by
    rw [← hg, ← hd]
    simp [atI, ixN]
  exact ev_f2 (ev_f2 e1 e2 e3) rfl (by simp only [gIx, asSeq, e4, Option.map])
/-- a store into the bag, a member counted up -/
theorem bag_set {S : Store} {l : Nat} {b : Bag} (hS : S[l]? = some b.so) (i : Int) :
    gSet (.loc l) (.d (.int 0)) (.d (.int i)) S = some (S.set l ({ b with b0 := i } : Bag).so) ∧ gSet (.loc l) (.d (.int 1)) (.d (.int i)) S = some (S.set l ({ b with b1 := i } : Bag).so) := by
  constructor <;> (unfold gSet; simp only [hS, Bag.so]; rfl)
theorem bag_up {S : Store} {l : Nat} {b : Bag} (hS : S[l]? = some b.so) :
    gAt (.loc l) (.d (.int 2)) S = some (.int (b.b2 : Int)) ∧ gSet (.loc l) (.d (.int 2)) (.d (.int ((b.b2 : Int) + 1))) S = some (S.set l ({ b with b2 := b.b2 + 1 } : Bag).so) := by
  constructor
  · unfold gAt
    simp only [hS, Bag.so]
    rfl
  · unfold gSet
    simp only [hS, Bag.so]
    rfl
theorem at_set {S : Store} {l : Nat} {o u : SO} (hS : S[l]? = some o) : (S.set l u)[l]? = some u := List.getElem?_set_self (List.getElem?_eq_some_iff.mp hS).1
theorem bag_mul {i j : Int} {n m : Nat} (hi : i.natAbs < 2 ^ n) (hj : j.natAbs < 2 ^ m) (h : n + m < 1000000) : decide (i.natAbs.log2 + j.natAbs.log2 < 1000000) = true := by
  have l1 : ∀ {k p : Nat}, k < 2 ^ p → k.log2 ≤ p := fun {k p} hk => by
    by_cases z : k = 0
    · subst z; rw [Nat.log2_zero]; exact Nat.zero_le _
    · exact Nat.le_of_lt ((Nat.log2_lt z).mpr hk)
  have a := l1 hi
  have b := l1 hj
  exact decide_eq_true (by omega)
/-- the bag stirred -/
theorem stir_run {ρ : Rho} {S : Store} {l : Nat} {b : Bag} (hρ : ρ[0]? = some (some (.loc l))) (h7 : ρ.length = 7) (hS : S[l]? = some b.so) (h0 : b.b0 = 0) (h1 : 0 ≤ b.b1 ∧ b.b1 < 2147483647) (h2 : b.b2 < 2 ^ 60) (hl : b.cs.length < 1000) :
    ∃ u v, tkA ρ S = .next ((ρ.set 2 u).set 3 v) (S.set l b.step.so) := by
  have hc := cut_cell hρ hS hl
  have at0 : ∀ {w : Option W} {i : Nat}, (ρ.set (i + 1) w)[0]? = some (some (.loc l)) := fun {w i} => by rw [List.getElem?_set_ne (by omega)]; exact hρ
  let c := b.cs.getD b.b2 0
  have q1 := (at0 (w := some (.d (.int c))) (i := 1))
  have s1 : fAsg (f2 gIx (f2 gAdd (fSl gSlA (f2 gIx (fVar 0) (fC (.int 3))) (fPart (f2 gIx (fVar 0) (fC (.int 2)))) fNoPart) (fL gLst (fAc (fC (.int 0)) fA0))) (fC (.int 0))) (gtName 2) ρ S = .next (ρ.set 2 (some (.d (.int c)))) S := ev_asg hc
  have v2 : (ρ.set 2 (some (W.d (.int c))))[2]? = some (some (.d (.int c))) := List.getElem?_set_self (by omega)
  have s2 : fAugAt (fVar 0) (fC (.int 2)) (gI2 (fun _ _ => true) fun i j => .int (i + j)) (fC (.int 1)) (ρ.set 2 (some (.d (.int c)))) S = .next (ρ.set 2 (some (.d (.int c)))) (S.set l ({ b with b2 := b.b2 + 1 } : Bag).so) :=
    ev_augAt (ev_var q1) rfl (bag_up hS).1 rfl (ev_I2 rfl) (bag_up hS).2
  have hS2 := at_set (u := ({ b with b2 := b.b2 + 1 } : Bag).so) hS
  have tst : fTest (f2 gGe (fVar 2) (f2 gPow (fC (.int 10)) (fC (.int 18)))) (ρ.set 2 (some (.d (.int c)))) (S.set l ({ b with b2 := b.b2 + 1 } : Bag).so) = .ok (decide (1000000000000000000 ≤ c)) (S.set l ({ b with b2 := b.b2 + 1 } : Bag).so) := by
    refine ev_test (ev_f2 (ev_var v2) (ev_f2 rfl rfl (ev_I2 (by decide))) (ev_I2 rfl))
  -- the cell put in
  have s3 : fIf (fTest (f2 gGe (fVar 2) (f2 gPow (fC (.int 10)) (fC (.int 18))))) (fStore (fVar 2) (fVar 0) (fC (.int 0))) fNext (ρ.set 2 (some (.d (.int c)))) (S.set l ({ b with b2 := b.b2 + 1 } : Bag).so)
      = .next (ρ.set 2 (some (.d (.int c)))) (S.set l ({ b with b2 := b.b2 + 1, b0 := if 1000000000000000000 ≤ c then c else 0 } : Bag).so) := by
    by_cases hc18 : 1000000000000000000 ≤ c
    · rw [decide_eq_true hc18] at tst
      rw [ev_yes tst, if_pos hc18, ev_store (ev_var v2) (ev_var q1) rfl (bag_set hS2 c).1, List.set_set]
    · rw [decide_eq_false hc18] at tst
      rw [ev_no tst, if_neg hc18]
      show RF.next _ _ = _
      congr 2
      rw [← h0]
  let b3 : Bag := { b with b2 := b.b2 + 1, b0 := if 1000000000000000000 ≤ c then c else 0 }
  have hS3 : (S.set l b3.so)[l]? = some b3.so := at_set hS
  have r3 := bag_rd q1 hS3
  have m1 : decide (b.b1.natAbs.log2 + (48271 : Int).natAbs.log2 < 1000000) = true := bag_mul (n := 31) (m := 16) (by omega) (by decide) (by decide)
  have m2 : decide ((7919 : Int).natAbs.log2 + (((b.b2 + 1 : Nat) : Int)).natAbs.log2 < 1000000) = true := bag_mul (n := 13) (m := 61) (by decide) (by rw [Int.natAbs_natCast]; omega) (by decide)
  let x : Int := b.b1 * 48271 + c % 2147483647 + 7919 * ((b.b2 + 1 : Nat) : Int)
  have s4 : fAsg (f2 gAdd (f2 gAdd (f2 gMulA (f2 gIx (fVar 0) (fC (.int 1))) (fC (.int 48271))) (f2 gMod (fL gIntA (fAc (fVar 2) fA0)) (fC (.int 2147483647)))) (f2 gMulA (fC (.int 7919)) (f2 gIx (fVar 0) (fC (.int 2))))) (gtName 3) (ρ.set 2 (some (.d (.int c)))) (S.set l b3.so)
      = .next ((ρ.set 2 (some (.d (.int c)))).set 3 (some (.d (.int x)))) (S.set l b3.so) :=
    ev_asg (ev_f2 (ev_f2 (ev_f2 r3.2.1 rfl (ev_mulA m1)) (ev_f2 (ev_L (ev_one (ev_var v2)) rfl) rfl (ev_I2 (by decide))) rfl) (ev_f2 rfl r3.2.2.1 (ev_mulA m2)) rfl)
  have q3 : ((ρ.set 2 (some (W.d (.int c)))).set 3 (some (.d (.int x))))[0]? = some (some (.loc l)) := by rw [List.getElem?_set_ne (by omega)]; exact q1
  have v3 : ((ρ.set 2 (some (W.d (.int c)))).set 3 (some (.d (.int x))))[3]? = some (some (.d (.int x))) := List.getElem?_set_self (by rw [List.length_set]; omega)
  have s5 : fStore (f2 gMod (fL gIntA (fAc (fVar 3) fA0)) (fC (.int 2147483647))) (fVar 0) (fC (.int 1)) ((ρ.set 2 (some (.d (.int c)))).set 3 (some (.d (.int x)))) (S.set l b3.so)
      = .next ((ρ.set 2 (some (.d (.int c)))).set 3 (some (.d (.int x)))) ((S.set l b3.so).set l ({ b3 with b1 := x % 2147483647 } : Bag).so) :=
    ev_store (ev_f2 (ev_L (ev_one (ev_var v3)) rfl) rfl (ev_I2 (by decide))) (ev_var q3) rfl (bag_set hS3 _).2
  refine ⟨some (.d (.int c)), some (.d (.int x)), ?_⟩
  unfold tkA
  rw [ev_seq s1, ev_seq s2, ev_seq s3, ev_seq s4, s5, List.set_set]
  have eb : b.step = { b3 with b1 := x % 2147483647 } := by
    unfold Bag.step
    rw [if_pos h0]
    show (⟨_, _, _, _⟩ : Bag) = ⟨_, _, _, _⟩
    congr 1
  rw [eb]
theorem ev_seqR {p q : FS} {ρ : Rho} {S S1 : Store} {w : W} (ep : p ρ S = .ret w S1) : fSeq p q ρ S = .ret w S1 := by unfold fSeq; rw [ep]
theorem set_same {S : Store} {l : Nat} {o : SO} (h : S[l]? = some o) : S.set l o = S := by
  refine List.ext_getElem? fun j => ?_
  by_cases e : l = j
  · subst e
    rw [at_set h, h]
  · rw [List.getElem?_set_ne e]
def tkB : FS := (fSeq (fAsg (f2 gMod (fL gIntA (fAc (f2 gIx (fVar 0) (fC (.int 0))) fA0)) (fVar 1)) (gtName 4)) (fSeq (fStore (f2 gDiv (fL gIntA (fAc (f2 gIx (fVar 0) (fC (.int 0))) fA0)) (fVar 1)) (fVar 0) (fC (.int 0))) (fRet (fVar 4))))
def tkC : FS := (fSeq (fAsg (f2 gMod (fL gIntA (fAc (f2 gMulA (f2 gAdd (f2 gIx (fVar 0) (fC (.int 1))) (fC (.int 1))) (fC (.int 39373))) fA0)) (fC (.int 1000000007))) (gtName 5)) (fSeq (fAsg (f2 gMod (fL gIntA (fAc (f2 gMulA (f2 gMod (fL gIntA (fAc (f2 gMulA (fVar 5) (fVar 5)) fA0)) (fC (.int 998244353))) (fC (.int 30011))) fA0)) (fC (.int 998244353))) (gtName 6)) (fRet (f2 gMod (fL gIntA (fAc (f2 gDiv (fVar 6) (fC (.int 7))) fA0)) (fVar 1)))))
theorem bTake_parts : bTake = fSeq (fIf (fTest (f2 gEq (f2 gIx (fVar 0) (fC (.int 0))) (fC (.int 0)))) tkA fNext) (fSeq (fIf (fTest (f2 gGt (f2 gIx (fVar 0) (fC (.int 0))) (fC (.int 0)))) tkB fNext) tkC) := rfl
/-- out of the number that is left over -/
theorem rest_run {ρ : Rho} {S : Store} {l : Nat} {b : Bag} {m : Int} (h0 : ρ[0]? = some (some (.loc l))) (h1 : ρ[1]? = some (some (.d (.int m)))) (h7 : ρ.length = 7) (hS : S[l]? = some b.so) (hm : 0 < m ∧ m < 1073741824) :
    tkB ρ S = .ret (.d (.int (b.b0 % m))) (S.set l ({ b with b0 := b.b0 / m } : Bag).so) := by
  have r := bag_rd h0 hS
  have q0 : (ρ.set 4 (some (W.d (.int (b.b0 % m)))))[0]? = some (some (.loc l)) := by rw [List.getElem?_set_ne (by omega)]; exact h0
  have q1 : (ρ.set 4 (some (W.d (.int (b.b0 % m)))))[1]? = some (some (.d (.int m))) := by rw [List.getElem?_set_ne (by omega)]; exact h1
  have q4 : (ρ.set 4 (some (W.d (.int (b.b0 % m)))))[4]? = some (some (.d (.int (b.b0 % m)))) := List.getElem?_set_self (by omega)
  have r2 := bag_rd q0 hS
  unfold tkB
  rw [ev_seq (ev_asg (ev_f2 (ev_L (ev_one r.1) rfl) (ev_var h1) (ev_I2 (decide_eq_true hm.1)))),
    ev_seq (ev_store (ev_f2 (ev_L (ev_one r2.1) rfl) (ev_var q1) (ev_I2 (decide_eq_true hm))) (ev_var q0) rfl (bag_set hS _).1)]
  exact ev_ret (ev_var q4)
/-- out of what is stirred -/
theorem stirred_run {ρ : Rho} {S : Store} {l : Nat} {b : Bag} {m : Int} (h0 : ρ[0]? = some (some (.loc l))) (h1 : ρ[1]? = some (some (.d (.int m)))) (h7 : ρ.length = 7) (hS : S[l]? = some b.so) (hb : 0 ≤ b.b1 ∧ b.b1 < 2147483647) (hm : 0 < m ∧ m < 1073741824) :
    tkC ρ S = .ret (.d (.int (((b.b1 + 1) * 39373 % 1000000007 * ((b.b1 + 1) * 39373 % 1000000007) % 998244353 * 30011 % 998244353 / 7) % m))) S := by
  have r := bag_rd h0 hS
  generalize eg : (b.b1 + 1) * 39373 % 1000000007 = g
  have g0 : 0 ≤ g ∧ g < 1000000007 := by rw [← eg]; exact ⟨Int.emod_nonneg _ (by decide), Int.emod_lt_of_pos _ (by decide)⟩
  generalize ek : g * g % 998244353 = k
  have k0 : 0 ≤ k ∧ k < 998244353 := by rw [← ek]; exact ⟨Int.emod_nonneg _ (by decide), Int.emod_lt_of_pos _ (by decide)⟩
  have m1 : decide ((b.b1 + 1).natAbs.log2 + (39373 : Int).natAbs.log2 < 1000000) = true := bag_mul (n := 32) (m := 16) (by omega) (by decide) (by decide)
  have m2 : decide (g.natAbs.log2 + g.natAbs.log2 < 1000000) = true := bag_mul (n := 30) (m := 30) (by omega) (by omega) (by decide)
  have m3 : decide (k.natAbs.log2 + (30011 : Int).natAbs.log2 < 1000000) = true := bag_mul (n := 30) (m := 16) (by omega) (by decide) (by decide)
  have v5 : (ρ.set 5 (some (W.d (.int g))))[5]? = some (some (.d (.int g))) := List.getElem?_set_self (by omega)
  have v6 : ((ρ.set 5 (some (W.d (.int g)))).set 6 (some (W.d (.int (k * 30011 % 998244353)))))[6]? = some (some (.d (.int (k * 30011 % 998244353)))) := List.getElem?_set_self (by rw [List.length_set]; omega)
  have v1 : ((ρ.set 5 (some (W.d (.int g)))).set 6 (some (W.d (.int (k * 30011 % 998244353)))))[1]? = some (some (.d (.int m))) := by rw [List.getElem?_set_ne (by omega), List.getElem?_set_ne (by omega)]; exact h1
  have a5 : fAsg (f2 gMod (fL gIntA (fAc (f2 gMulA (f2 gAdd (f2 gIx (fVar 0) (fC (.int 1))) (fC (.int 1))) (fC (.int 39373))) fA0)) (fC (.int 1000000007))) (gtName 5) ρ S = .next (ρ.set 5 (some (W.d (.int g)))) S := by
    rw [← eg]
    exact ev_asg (ev_f2 (ev_L (ev_one (ev_f2 (ev_f2 r.2.1 rfl rfl) rfl (ev_mulA m1))) rfl) rfl (ev_I2 (by decide)))
  have a6 : fAsg (f2 gMod (fL gIntA (fAc (f2 gMulA (f2 gMod (fL gIntA (fAc (f2 gMulA (fVar 5) (fVar 5)) fA0)) (fC (.int 998244353))) (fC (.int 30011))) fA0)) (fC (.int 998244353))) (gtName 6) (ρ.set 5 (some (W.d (.int g)))) S = .next ((ρ.set 5 (some (W.d (.int g)))).set 6 (some (W.d (.int (k * 30011 % 998244353))))) S := by
    refine ev_asg (ev_f2 (ev_L (ev_one (ev_f2 (ev_f2 (ev_L (ev_one (ev_f2 (ev_var v5) (ev_var v5) (ev_mulA m2))) rfl) rfl (ev_I2 (by decide))) rfl (ev_mulA ?_))) rfl) rfl ?_)
    · rw [ek]; exact m3
    · rw [ek]; exact ev_I2 (by decide)
  unfold tkC
  rw [ev_seq a5, ev_seq a6]
  exact ev_ret (ev_f2 (ev_L (ev_one (ev_f2 (ev_var v6) rfl (ev_I2 (by decide)))) rfl) (ev_var v1) (ev_I2 (decide_eq_true hm.1)))
theorem step_b1 {b : Bag} (h1 : 0 ≤ b.b1 ∧ b.b1 < 2147483647) : 0 ≤ b.step.b1 ∧ b.step.b1 < 2147483647 := by
  unfold Bag.step
  split
  · exact ⟨Int.emod_nonneg _ (by decide), Int.emod_lt_of_pos _ (by decide)⟩
  · exact h1
/-- what is taken of the bag -/
theorem take_run {S : Store} {l : Nat} {b : Bag} {m : Int} (hS : S[l]? = some b.so) (h1 : 0 ≤ b.b1 ∧ b.b1 < 2147483647) (h2 : b.b2 < 2 ^ 60) (hl : b.cs.length < 1000) (hm : 0 < m ∧ m < 1073741824) :
    runB 7 bTake [.loc l, .d (.int m)] S = .ok (.d (.int (b.take m).1)) (S.set l (b.take m).2.so) := by
  have e0 : (startR 7 [.loc l, .d (.int m)])[0]? = some (some (.loc l)) := rfl
  have e1 : (startR 7 [.loc l, .d (.int m)])[1]? = some (some (.d (.int m))) := rfl
  have e7 : (startR 7 [.loc l, .d (.int m)]).length = 7 := rfl
  -- behind the stirring
  have first : ∃ ρ, ρ[0]? = some (some (.loc l)) ∧ ρ[1]? = some (some (.d (.int m))) ∧ ρ.length = 7 ∧
      fIf (fTest (f2 gEq (f2 gIx (fVar 0) (fC (.int 0))) (fC (.int 0)))) tkA fNext (startR 7 [.loc l, .d (.int m)]) S = .next ρ (S.set l b.step.so) := by
    have tst : fTest (f2 gEq (f2 gIx (fVar 0) (fC (.int 0))) (fC (.int 0))) (startR 7 [.loc l, .d (.int m)]) S = .ok (decide (b.b0 = 0)) S := ev_test (ev_f2 (bag_rd e0 hS).1 rfl ev_eqI)
    by_cases hz : b.b0 = 0
    · rw [decide_eq_true hz] at tst
      obtain ⟨u, v, e⟩ := stir_run e0 e7 hS hz h1 h2 hl
      exact ⟨_, rfl, rfl, rfl, (ev_yes tst).trans e⟩
    · rw [decide_eq_false hz] at tst
      refine ⟨_, e0, e1, e7, (ev_no tst).trans ?_⟩
      have es : b.step = b := if_neg hz
      rw [es, set_same hS]
      rfl
  obtain ⟨ρ, r0, r1, r7, e⟩ := first
  have hS2 : (S.set l b.step.so)[l]? = some b.step.so := at_set hS
  have h1' := step_b1 h1
  unfold runB
  rw [bTake_parts, ev_seq e]
  have tst : fTest (f2 gGt (f2 gIx (fVar 0) (fC (.int 0))) (fC (.int 0))) ρ (S.set l b.step.so) = .ok (decide (0 < b.step.b0)) (S.set l b.step.so) := ev_test (ev_f2 (bag_rd r0 hS2).1 rfl (ev_I2 rfl))
  by_cases hp : 0 < b.step.b0
  · rw [decide_eq_true hp] at tst
    rw [ev_seqR ((ev_yes tst).trans (rest_run r0 r1 r7 hS2 hm)), List.set_set]
    unfold Bag.take
    rw [if_pos hp]
    rfl
  · rw [decide_eq_false hp] at tst
    rw [ev_seq ((ev_no tst).trans (show fNext ρ (S.set l b.step.so) = .next ρ (S.set l b.step.so) from rfl)), stirred_run r0 r1 r7 hS2 h1' hm]
    unfold Bag.take
    rw [if_neg hp]
    rfl
end VI
set_option Elab.async false
set_option linter.all false
set_option maxRecDepth 100000
namespace VI
open PySem PySem.Spec PyProof.Rows L2

/-! calls evaluated; one of several; several mixed -/
theorem ev_call {n : Nat} {g : List W → Store → R W} {fa : FA} {ρ : Rho} {S S1 S2 : Store} {ws : List W} {w w' : W} (ea : fa ρ S = .ok ws S1) (hn : ws.length = n) (eg : g ws S1 = .ok w S2) (hz : S2.length = S1.length) (hw : frzW S1.length S2 w = some w') : fCall n g fa ρ S = .ok w' S2 := by
  unfold fCall
  rw [ea]
  show (if ws.length = n then frz S1.length (g ws S1) else R.bad) = _
  rw [if_pos hn, eg]
  show (match frzW S1.length S2 w with | some w' => R.ok w' (S2.take S1.length) | none => R.bad) = _
  rw [hw]
  show R.ok w' (S2.take S1.length) = _
  rw [List.take_of_length_le (by omega)]
structure Bag.Fit (b : Bag) : Prop where
  h1 : 0 ≤ b.b1 ∧ b.b1 < 2147483647
  hl : b.cs.length < 1000
theorem step_cs (b : Bag) : b.step.cs = b.cs ∧ b.step.b2 ≤ b.b2 + 1 := by
  unfold Bag.step
  split
  · exact ⟨rfl, Nat.le_refl _⟩
  · exact ⟨rfl, Nat.le_succ _⟩
theorem take_facts (b : Bag) {m : Int} (hm : 0 < m) : 0 ≤ (b.take m).1 ∧ (b.take m).1 < m := by
  unfold Bag.take
  split
  · exact ⟨Int.emod_nonneg _ (by omega), Int.emod_lt_of_pos _ hm⟩
  · exact ⟨Int.emod_nonneg _ (by omega), Int.emod_lt_of_pos _ hm⟩
theorem take_fit {b : Bag} (h : b.Fit) (m : Int) : (b.take m).2.Fit ∧ (b.take m).2.b2 ≤ b.b2 + 1 := by
  have s := step_cs b
  have s1 := step_b1 h.h1
  unfold Bag.take
  split
  · exact ⟨⟨s1, by show b.step.cs.length < 1000; rw [s.1]; exact h.hl⟩, s.2⟩
  · exact ⟨⟨s1, by rw [s.1]; exact h.hl⟩, s.2⟩
/-- it takes a number -/
def Taker (g : List W → Store → R W) : Prop := ∀ (S : Store) (l : Nat) (b : Bag) (m : Int), S[l]? = some b.so → b.Fit → b.b2 < 2 ^ 60 → 0 < m ∧ m < 1073741824 → g [.loc l, .d (.int m)] S = .ok (.d (.int (b.take m).1)) (S.set l (b.take m).2.so)
theorem taker : Taker (runB 7 bTake) := fun S l b m hS h h2 hm => take_run hS h.h1 h2 h.hl hm
theorem ev_take {g : List W → Store → R W} (T : Taker g) {fa fb : FE} {ρ : Rho} {S : Store} {l : Nat} {b : Bag} {m : Int} (ea : fa ρ S = .ok (.loc l) S) (eb : fb ρ S = .ok (.d (.int m)) S) (hS : S[l]? = some b.so) (h : b.Fit) (h2 : b.b2 < 2 ^ 60) (hm : 0 < m ∧ m < 1073741824) :
    fCall 2 g (fAc fa (fAc fb fA0)) ρ S = .ok (.d (.int (b.take m).1)) (S.set l (b.take m).2.so) :=
  ev_call (ev_ac ea (ev_one eb)) rfl (T S l b m hS h h2 hm) (List.length_set ..) rfl
def bSome (tk : List W → Store → R W) : FS := (fRet (f2 gIx (fVar 1) (fCall 2 tk (fAc (fVar 0) (fAc (fL gLen (fAc (fVar 1) fA0)) fA0)))))
theorem atI_in {α : Type} {xs : List α} {i : Int} (h0 : 0 ≤ i) (h1 : i < xs.length) : atI xs i = xs[i.toNat]? := by
  unfold atI ixN
  rw [if_pos h0, if_pos h1]
  rfl
/-- one of several -/
def pick (b : Bag) (ds : List PyData) : PyData := ds.getD (b.take ds.length).1.toNat .none
theorem pick_mem {b : Bag} {ds : List PyData} (h : 0 < ds.length) : pick b ds ∈ ds := by
  have f := take_facts b (m := ds.length) (by omega)
  unfold pick
  rw [List.getD_eq_getElem?_getD, List.getElem?_eq_getElem (by omega)]
  exact List.getElem_mem _
theorem some_run {tk : List W → Store → R W} (T : Taker tk) {S : Store} {l : Nat} {b : Bag} {ds : List PyData} (hS : S[l]? = some b.so) (h : b.Fit) (h2 : b.b2 < 2 ^ 60) (hd : 0 < ds.length ∧ ds.length < 1073741824) :
    runB 2 (bSome tk) [.loc l, .d (.list ds)] S = .ok (.d (pick b ds)) (S.set l (b.take ds.length).2.so) := by
  have f := take_facts b (m := ds.length) (by omega)
  have hp : ds[(b.take ds.length).1.toNat]? = some (pick b ds) := by
    unfold pick
    rw [List.getD_eq_getElem?_getD, List.getElem?_eq_getElem (by omega)]
    rfl
  have e : bSome tk (startR 2 [.loc l, .d (.list ds)]) S = .ret (.d (pick b ds)) (S.set l (b.take ds.length).2.so) := by
    refine ev_ret (ev_f2 (ev_var (x := .d (.list ds)) rfl) (ev_take (m := ds.length) T (ev_var rfl) (ev_L (ev_one (ev_var (x := .d (.list ds)) rfl)) rfl) hS h h2 ⟨by omega, by omega⟩) ?_)
    show (atI ds _).map _ = _
    rw [atI_in f.1 f.2, hp]
    rfl
  unfold runB
  rw [e]
  rfl
/-! several, mixed -/
def mixP : Bag → List PyData → List PyData → List PyData × Bag
  | b, acc, [] => (acc, b)
  | b, acc, d :: ds => mixP (b.take ((acc.length : Int) + 1)).2 (acc.take (b.take ((acc.length : Int) + 1)).1.toNat ++ [d] ++ acc.drop (b.take ((acc.length : Int) + 1)).1.toNat) ds
theorem mixP_cons (b : Bag) (acc : List PyData) (d : PyData) (ds : List PyData) : mixP b acc (d :: ds) = mixP (b.take ((acc.length : Int) + 1)).2 (acc.take (b.take ((acc.length : Int) + 1)).1.toNat ++ [d] ++ acc.drop (b.take ((acc.length : Int) + 1)).1.toNat) ds := rfl
theorem mix_perm : ∀ (ds acc : List PyData) (b : Bag), ((mixP b acc ds).1).Perm (ds ++ acc)
  | [], acc, b => List.Perm.refl _
  | d :: ds, acc, b => by
    unfold mixP
    refine (mix_perm ds _ _).trans ?_
    have e : (acc.take (b.take ((acc.length : Int) + 1)).1.toNat ++ [d] ++ acc.drop (b.take ((acc.length : Int) + 1)).1.toNat).Perm (d :: acc) := by
      rw [List.append_assoc]
      show (acc.take (b.take ((acc.length : Int) + 1)).1.toNat ++ d :: acc.drop (b.take ((acc.length : Int) + 1)).1.toNat).Perm (d :: acc)
      refine List.perm_middle.trans ?_
      rw [List.take_append_drop]
    exact (List.Perm.append_left ds e).trans List.perm_middle
theorem mix_fit : ∀ (ds acc : List PyData) (b : Bag), b.Fit → (mixP b acc ds).2.Fit ∧ (mixP b acc ds).2.b2 ≤ b.b2 + ds.length
  | [], acc, b, h => ⟨h, Nat.le_refl _⟩
  | d :: ds, acc, b, h => by
    unfold mixP
    have f := take_fit h ((acc.length : Int) + 1)
    have r := mix_fit ds (acc.take (b.take ((acc.length : Int) + 1)).1.toNat ++ [d] ++ acc.drop (b.take ((acc.length : Int) + 1)).1.toNat) _ f.1
    refine ⟨r.1, ?_⟩
    rw [List.length_cons]
    have := r.2
    have := f.2
    omega
def mixBody (tk : List W → Store → R W) : FS := (fDrop (fMeth mInsert (fVar 2) (fAc (fCall 2 tk (fAc (fVar 0) (fAc (f2 gAdd (fL gLen (fAc (fVar 2) fA0)) (fC (.int 1))) fA0))) (fAc (fVar 3) fA0))))
noncomputable def bMixed (tk : List W → Store → R W) : FS := (fSeq (fAsg (fL gLive fA0) (gtName 2)) (fSeq (fFor (fItS (fVar 1)) (gtName 3) (mixBody tk)) (fRet (fVar 2))))
theorem ev_drop {a : FE} {ρ : Rho} {S S1 : Store} {x : W} (ea : a ρ S = .ok x S1) : fDrop a ρ S = .next ρ S1 := by unfold fDrop; rw [ea]; rfl
theorem ev_meth {g : GM} {o : FE} {fa : FA} {ρ : Rho} {S S1 S2 S3 : Store} {w z : W} {ws : List W} (eo : o ρ S = .ok w S1) (hl : liveB w S1 = true) (ea : fa ρ S1 = .ok ws S2) (eg : g w ws S2 = some (z, S3)) : fMeth g o fa ρ S = .ok z S3 := by
  unfold fMeth
  rw [eo]
  show (if liveB w S1 = true then (fa ρ S1).bind _ else R.bad) = _
  rw [if_pos hl, ea]
  show lift (g w ws S2) = _
  rw [eg]
  rfl
/-- one turn: the bag at l, the new list at n -/
theorem mix_turn {tk : List W → Store → R W} (T : Taker tk) {ρ : Rho} {S : Store} {l n : Nat} {b : Bag} {acc : List PyData} {d : PyData} (ne : l ≠ n) (h0 : ρ[0]? = some (some (.loc l))) (h2 : ρ[2]? = some (some (.loc n))) (h3 : ρ[3]? = some (some (.d d)))
    (hS : S[l]? = some b.so) (hN : S[n]? = some (.lst acc)) (hf : b.Fit) (hb : b.b2 < 2 ^ 60) (hz : acc.length < 1000000) :
    mixBody tk ρ S = .next ρ ((S.set l (b.take ((acc.length : Int) + 1)).2.so).set n (.lst (acc.take (b.take ((acc.length : Int) + 1)).1.toNat ++ [d] ++ acc.drop (b.take ((acc.length : Int) + 1)).1.toNat))) := by
  have f := take_facts b (m := (acc.length : Int) + 1) (by omega)
  have hN2 : (S.set l (b.take ((acc.length : Int) + 1)).2.so)[n]? = some (.lst acc) := by rw [List.getElem?_set_ne ne]; exact hN
  have ln : fL gLen (fAc (fVar 2) fA0) ρ S = .ok (.d (.int acc.length)) S := ev_L (ev_one (ev_var h2)) (by simp only [gLen, asSeq, hN])
  have tk1 := ev_take (fb := f2 gAdd (fL gLen (fAc (fVar 2) fA0)) (fC (.int 1))) (m := (acc.length : Int) + 1) T (ev_var h0) (ev_f2 ln rfl rfl) hS hf hb ⟨by omega, by omega⟩
  refine ev_drop (ev_meth (ev_var h2) (by simp only [liveB, hN]) (ev_ac tk1 (ev_one (ev_var h3))) (z := .d .none) ?_)
  unfold mInsert
  simp only [hN2]
  rw [if_pos ⟨Nat.lt_of_lt_of_le hz (by decide), f.1, by omega⟩]
theorem mix_loop {tk : List W → Store → R W} (T : Taker tk) {l n : Nat} {ok : Store → Prop} (hok : ∀ S, ok S) (ne : l ≠ n) : ∀ (ds acc : List PyData) (b : Bag) (ρ : Rho) (S : Store), ρ[0]? = some (some (.loc l)) → ρ[2]? = some (some (.loc n)) → ρ.length = 4 → S[l]? = some b.so → S[n]? = some (.lst acc) → b.Fit → b.b2 + ds.length < 2 ^ 60 → acc.length + ds.length < 1000000 →
    ∃ ρ', ρ'[2]? = some (some (.loc n)) ∧ forL ok (gtName 3) (mixBody tk) (ds.map W.d) ρ S = .next ρ' ((S.set l (mixP b acc ds).2.so).set n (.lst (mixP b acc ds).1))
  | [], acc, b, ρ, S, h0, h2, h4, hS, hN, hf, hb, hz => by
    refine ⟨ρ, h2, ?_⟩
    show forL ok (gtName 3) (mixBody tk) [] ρ S = _
    rw [forL, if_pos (hok S)]
    show RF.next ρ S = .next ρ ((S.set l b.so).set n (.lst acc))
    rw [set_same hS, set_same hN]
  | d :: ds, acc, b, ρ, S, h0, h2, h4, hS, hN, hf, hb, hz => by
    rw [List.length_cons] at hb hz
    have k0 : (ρ.set 3 (some (W.d d)))[0]? = some (some (.loc l)) := by rw [List.getElem?_set_ne (by omega)]; exact h0
    have k2 : (ρ.set 3 (some (W.d d)))[2]? = some (some (.loc n)) := by rw [List.getElem?_set_ne (by omega)]; exact h2
    have k3 : (ρ.set 3 (some (W.d d)))[3]? = some (some (.d d)) := List.getElem?_set_self (by omega)
    have tn := mix_turn T ne k0 k2 k3 hS hN hf (by omega) (by omega)
    have f := take_fit hf ((acc.length : Int) + 1)
    have fa := take_facts b (m := (acc.length : Int) + 1) (by omega)
    generalize eb : (b.take ((acc.length : Int) + 1)).2 = b2 at tn f
    generalize ei : acc.take (b.take ((acc.length : Int) + 1)).1.toNat ++ [d] ++ acc.drop (b.take ((acc.length : Int) + 1)).1.toNat = acc2 at tn
    have la : acc2.length = acc.length + 1 := by
      rw [← ei]
      simp only [List.length_append, List.length_take, List.length_drop, List.length_cons, List.length_nil]
      omega
    have s1 : ((S.set l b2.so).set n (.lst acc2))[l]? = some b2.so := by rw [List.getElem?_set_ne (Ne.symm ne)]; exact at_set hS
    have s2 : ((S.set l b2.so).set n (.lst acc2))[n]? = some (.lst acc2) := at_set (o := .lst acc) (by rw [List.getElem?_set_ne ne]; exact hN)
    obtain ⟨ρ', g2, e⟩ := mix_loop T hok ne ds acc2 b2 (ρ.set 3 (some (.d d))) ((S.set l b2.so).set n (.lst acc2)) k0 k2 (by rw [List.length_set]; exact h4) s1 s2 f.1 (by omega) (by omega)
    refine ⟨ρ', g2, ?_⟩
    show forL ok (gtName 3) (mixBody tk) (.d d :: ds.map W.d) ρ S = _
    rw [forL, if_pos (hok S)]
    show (match mixBody tk (ρ.set 3 (some (.d d))) S with
      | .next ρ2 S2 => forL ok (gtName 3) (mixBody tk) (ds.map W.d) ρ2 S2
      | .cnt ρ2 S2 => forL ok (gtName 3) (mixBody tk) (ds.map W.d) ρ2 S2
      | .brk ρ2 S2 => .next ρ2 S2
      | r => r) = _
    rw [tn]
    show forL ok (gtName 3) (mixBody tk) (ds.map W.d) _ _ = _
    rw [e]
    rw [mixP_cons, eb, ei, List.set_comm (l := S.set l b2.so) _ _ (Ne.symm ne), List.set_set, List.set_set]
theorem push_at {S : Store} {o : SO} : (S ++ [o])[S.length]? = some o := by rw [List.getElem?_append_right (Nat.le_refl _)]; simp
theorem push_old {S : Store} {o u : SO} {l : Nat} (h : S[l]? = some u) : (S ++ [o])[l]? = some u := by rw [List.getElem?_append_left (List.getElem?_eq_some_iff.mp h).1]; exact h
theorem mixed_run {tk : List W → Store → R W} (T : Taker tk) {S : Store} {l : Nat} {b : Bag} {ds : List PyData} (hS : S[l]? = some b.so) (hf : b.Fit) (hb : b.b2 + ds.length < 2 ^ 60) (hz : ds.length < 1000000) :
    runB 4 (bMixed tk) [.loc l, .d (.list ds)] S = .ok (.loc S.length) (S.set l (mixP b [] ds).2.so ++ [.lst (mixP b [] ds).1]) := by
  have hl : l < S.length := (List.getElem?_eq_some_iff.mp hS).1
  have e1 : fAsg (fL gLive fA0) (gtName 2) (startR 4 [.loc l, .d (.list ds)]) S = .next ((startR 4 [.loc l, .d (.list ds)]).set 2 (some (.loc S.length))) (S ++ [.lst []]) := ev_asg (ev_L (show fA0 _ S = .ok [] S from rfl) rfl)
  obtain ⟨ρ', k2, e2⟩ := mix_loop T (ok := fun _ => True) (fun _ => trivial) (Nat.ne_of_lt hl) ds [] b ((startR 4 [.loc l, .d (.list ds)]).set 2 (some (.loc S.length))) (S ++ [.lst []]) rfl rfl rfl (push_old hS) push_at hf hb (by simpa using hz)
  have e3 : fFor (fItS (fVar 1)) (gtName 3) (mixBody tk) ((startR 4 [.loc l, .d (.list ds)]).set 2 (some (.loc S.length))) (S ++ [.lst []]) = .next ρ' (((S ++ [SO.lst []]).set l (mixP b [] ds).2.so).set S.length (.lst (mixP b [] ds).1)) := e2
  have es : ((S ++ [SO.lst []]).set l (mixP b [] ds).2.so).set S.length (.lst (mixP b [] ds).1) = S.set l (mixP b [] ds).2.so ++ [.lst (mixP b [] ds).1] := by
    rw [List.set_append_left _ _ hl, List.set_append_right _ _ (by rw [List.length_set]; exact Nat.le_refl _), List.length_set, Nat.sub_self]
    rfl
  unfold runB bMixed
  rw [ev_seq e1, ev_seq e3, ev_ret (ev_var k2), es]
  rfl
/-- as it is called -/
theorem ev_mixed {tk g : List W → Store → R W} (T : Taker tk) (hg : ∀ ws S, g ws S = runB 4 (bMixed tk) ws S) {fa fb : FE} {ρ : Rho} {S : Store} {l : Nat} {b : Bag} {ds : List PyData} (ea : fa ρ S = .ok (.loc l) S) (eb : fb ρ S = .ok (.d (.list ds)) S)
    (hS : S[l]? = some b.so) (hf : b.Fit) (hb : b.b2 + ds.length < 2 ^ 60) (hz : ds.length < 1000000) : fCall 2 g (fAc fa (fAc fb fA0)) ρ S = .ok (.d (.list (mixP b [] ds).1)) (S.set l (mixP b [] ds).2.so) := by
  unfold fCall
  rw [ev_ac ea (ev_one eb)]
  show (if [W.loc l, .d (.list ds)].length = 2 then frz S.length (g _ S) else R.bad) = _
  rw [if_pos (show [W.loc l, .d (.list ds)].length = 2 from rfl), hg, mixed_run T hS hf hb hz]
  show (match frzW S.length _ (.loc S.length) with | some w' => R.ok w' (List.take S.length _) | none => R.bad) = _
  have e : frzW S.length (S.set l (mixP b [] ds).2.so ++ [.lst (mixP b [] ds).1]) (.loc S.length) = some (.d (.list (mixP b [] ds).1)) := by
    unfold frzW
    rw [if_neg (Nat.lt_irrefl _)]
    have z : (S.set l (mixP b [] ds).2.so ++ [SO.lst (mixP b [] ds).1])[S.length]? = some (.lst (mixP b [] ds).1) := by
      have := push_at (S := S.set l (mixP b [] ds).2.so) (o := .lst (mixP b [] ds).1)
      rw [List.length_set] at this
      exact this
    rw [z]
  rw [e]
  show R.ok _ (List.take S.length _) = _
  rw [List.take_append_of_le_length (by rw [List.length_set]; exact Nat.le_refl _), List.take_of_length_le (by rw [List.length_set]; exact Nat.le_refl _)]
theorem ev_some {tk g : List W → Store → R W} (T : Taker tk) (hg : ∀ ws S, g ws S = runB 2 (bSome tk) ws S) {fa fb : FE} {ρ : Rho} {S : Store} {l : Nat} {b : Bag} {ds : List PyData} (ea : fa ρ S = .ok (.loc l) S) (eb : fb ρ S = .ok (.d (.list ds)) S)
    (hS : S[l]? = some b.so) (hf : b.Fit) (hb : b.b2 < 2 ^ 60) (hz : 0 < ds.length ∧ ds.length < 1073741824) : fCall 2 g (fAc fa (fAc fb fA0)) ρ S = .ok (.d (pick b ds)) (S.set l (b.take ds.length).2.so) :=
  ev_call (ev_ac ea (ev_one eb)) rfl ((hg _ _).trans (some_run T hS hf hb hz)) (List.length_set ..) rfl
end VI
set_option Elab.async false
set_option linter.all false
set_option maxRecDepth 100000
namespace VI
open PySem PySem.Spec PyProof.Rows L2

/-! evaluating: texts and numbers -/
abbrev tx (a : List Nat) : Str := ⟨a.toArray⟩
abbrev st (a : List Nat) : W := .d (.str (tx a))
abbrev nt (n : Nat) : W := .d (.int (n : Int))
abbrev bt (b : Bool) : W := .d (.bool b)
theorem R_ok {α β : Type} {a : α} {S : Store} {k : α → Store → R β} : (R.ok a S).bind k = k a S := rfl
theorem toS_ok {α : Type} {a : α} {S : Store} {ρ : Rho} {k : α → Store → RF} : toS ρ (R.ok a S) k = k a S := rfl
theorem lift_some {w : W} {S : Store} : lift (some (w, S)) = .ok w S := rfl
theorem boolW_ok {b : Bool} {S : Store} : boolW (.d (.bool b)) S = .ok b S := rfl
theorem truR_b {b : Bool} {S : Store} : truR (.d (.bool b)) S = .ok b S := rfl
theorem len_tx (a : List Nat) : (tx a).length = a.length := by simp [Str.length]
section
variable {S : Store} {a b : List Nat} {i j c : Nat}
theorem g_ix (h : a[i]? = some c) (hl : a.length ≤ lim) : gIx (st a) (nt i) S = some (st [c], S) := by
  have hi : i < a.length := (List.getElem?_eq_some_iff.mp h).1
  show (if (tx a).length ≤ lim then (atI (tx a).cps.toList (i : Int)).map fun c => (W.d (.str ⟨#[c]⟩), S) else none) = _
  rw [len_tx, if_pos hl]
  show ((atI a (i : Int)).map fun c => (W.d (.str ⟨#[c]⟩), S)) = _
  rw [atI_in (by omega) (by omega), Int.toNat_natCast, h]
  rfl
theorem g_in : gInA (st [c]) (st b) S = some (bt (decide (c ∈ b)), S) := by
  have e2 := SX.in_one b c
  show some (bt (!(Builtin.Str.occurrences (tx b) (tx [c]) 0 (tx b).length 1).isEmpty), S) = _
  rw [e2]
theorem g_len (hl : a.length ≤ lim) : gLen [st a] S = some (nt a.length, S) := by
  show (if (tx a).length ≤ lim then some (W.d (.int ((tx a).length : Int)), S) else none) = _
  rw [len_tx, if_pos hl]
theorem g_lt : gLt (nt i) (nt j) S = some (bt (decide (i < j)), S) := by
  show some (bt (decide ((i : Int) < (j : Int))), S) = _
  congr 3
  simp only [Int.ofNat_lt]
theorem g_gt : gGt (nt i) (nt j) S = some (bt (decide (j < i)), S) := by
  show some (bt (decide ((j : Int) < (i : Int))), S) = _
  congr 3
  simp only [Int.ofNat_lt]
theorem g_le : gLe (nt i) (nt j) S = some (bt (decide (i ≤ j)), S) := by
  show some (bt (decide ((i : Int) ≤ (j : Int))), S) = _
  congr 3
  simp only [Int.ofNat_le]
theorem g_add : gAdd (nt i) (nt j) S = some (nt (i + j), S) := rfl
theorem g_inc : gI2 (fun _ _ => true) (fun i j => PyData.int (i + j)) (nt i) (nt j) S = some (nt (i + j), S) := rfl
theorem g_inc1 : gI2 (fun _ _ => true) (fun i j => PyData.int (i + j)) (nt i) (.d (.int 1)) S = some (nt (i + 1), S) := rfl
theorem g_add1 : gAdd (nt i) (.d (.int 1)) S = some (nt (i + 1), S) := rfl
theorem g_add2 : gAdd (nt i) (.d (.int 2)) S = some (nt (i + 2), S) := rfl
theorem g_cat (hl : a.length + b.length ≤ lim) : gAdd (st a) (st b) S = some (st (a ++ b), S) := by
  show (if (tx a).length + (tx b).length ≤ lim then some (W.d (.str (tx a ++ tx b)), S) else none) = _
  rw [len_tx, len_tx, if_pos hl]
  have e : tx a ++ tx b = tx (a ++ b) := SX.S_cat a b
  rw [e]
/-- signs that there are -/
def okc (a : List Nat) : Bool := a.all (· < 1114112)
theorem strOk_tx (h : okc a = true) : PyData.strOk (tx a) = true := by
  unfold PyData.strOk
  rw [← Array.all_toList]
  exact h
theorem shaped_tx (h : okc a = true) : SeqAt.shaped (.str (tx a)) = true := by
  unfold SeqAt.shaped
  have e : PyData.canLay0 (.str (tx a)) = true := strOk_tx h
  rw [e]
  rfl
theorem eqv_tx : PyData.eqv (.str (tx a)) (.str (tx b)) = decide (a = b) := by
  show (tx a == tx b) = _
  exact SX.S_beq_eq
theorem g_eqs (ha : okc a = true) (hb : okc b = true) : gEq (st a) (st b) S = some (bt (decide (a = b)), S) := by
  show some (bt (tx a == tx b), S) = _
  have e : (tx a == tx b) = decide (a = b) := SX.S_beq_eq
  rw [e]
theorem g_nes (ha : okc a = true) (hb : okc b = true) : gNe (st a) (st b) S = some (bt (!decide (a = b)), S) := by
  show some (bt (!(tx a == tx b)), S) = _
  have e : (tx a == tx b) = decide (a = b) := SX.S_beq_eq
  rw [e]
theorem cut_tx {lo hi : Option Int} : cutS (tx a) lo hi = tx ((a.drop (HT.sIx a.length 0 lo)).take (HT.sIx a.length a.length hi - HT.sIx a.length 0 lo)) := by
  unfold cutS
  rw [len_tx]
theorem take_min (l : List Nat) (i j : Nat) : (l.drop (min i l.length)).take (min j l.length - min i l.length) = (l.drop i).take (j - i) := by
  by_cases h : i ≤ l.length
  · rw [Nat.min_eq_left h]
    by_cases h2 : j ≤ l.length
    · rw [Nat.min_eq_left h2]
    · rw [Nat.min_eq_right (a := j) (by omega)]
      rw [List.take_of_length_le (i := l.length - i) (by rw [List.length_drop]; omega), List.take_of_length_le (by rw [List.length_drop]; omega)]
  · rw [List.drop_of_length_le (i := i) (by omega), Nat.min_eq_right (a := i) (by omega), List.drop_of_length_le (Nat.le_refl _), List.take_nil, List.take_nil]
theorem g_sl (hl : a.length ≤ lim) : gSlA (st a) (some (i : Int)) (some (j : Int)) S = some (st ((a.drop i).take (j - i)), S) := by
  show (if (tx a).length ≤ lim then some (W.d (.str (cutS (tx a) (some (i : Int)) (some (j : Int)))), S) else none) = _
  rw [len_tx, if_pos hl, cut_tx, HT.sIx_nat, HT.sIx_nat, take_min]
theorem g_sl1 (hl : a.length ≤ lim) : gSlA (st a) (some (i : Int)) (some ((i + 1 : Nat) : Int)) S = some (st ((a.drop i).take 1), S) := by
  rw [g_sl hl, Nat.add_sub_cancel_left]
theorem g_sl2 (hl : a.length ≤ lim) : gSlA (st a) (some (i : Int)) (some ((i + 2 : Nat) : Int)) S = some (st ((a.drop i).take 2), S) := by
  rw [g_sl hl, Nat.add_sub_cancel_left]
theorem g_sf (hl : a.length ≤ lim) : gSlA (st a) (some (i : Int)) none S = some (st (a.drop i), S) := by
  show (if (tx a).length ≤ lim then some (W.d (.str (cutS (tx a) (some (i : Int)) none)), S) else none) = _
  rw [len_tx, if_pos hl, cut_tx, HT.sIx_nat, HT.sIx_none]
  by_cases h : i ≤ a.length
  · rw [Nat.min_eq_left h, List.take_of_length_le (by rw [List.length_drop]; omega)]
  · rw [Nat.min_eq_right (by omega), List.drop_of_length_le (Nat.le_refl _), List.take_nil, List.drop_of_length_le (by omega)]
end
/-- a call that hands back pure data -/
theorem ev_cd {n : Nat} {g : List W → Store → R W} {fa : FA} {ρ : Rho} {S S1 S2 : Store} {ws : List W} {x : PyData} (ea : fa ρ S = .ok ws S1) (eg : g ws S1 = .ok (.d x) S2) (hn : ws.length = n := by rfl) : fCall n g fa ρ S = .ok (.d x) (S2.take S1.length) := by
  unfold fCall
  rw [ea]
  show (if ws.length = n then frz S1.length (g ws S1) else R.bad) = _
  rw [if_pos hn, eg]
  rfl
/-- .. and leaves the store -/
theorem fcall_same {n : Nat} {g : List W → Store → R W} {ws : List W} {S : Store} {x : PyData} (eg : g ws S = .ok (.d x) S) (hn : ws.length = n) : (if ws.length = n then frz S.length (g ws S) else R.bad) = .ok (.d x) S := by
  rw [if_pos hn, eg]
  show R.ok _ (S.take S.length) = _
  rw [List.take_length]
theorem while_step {c : FT} {b : FS} {n : Nat} {ρ : Rho} {S : Store} : whileL c b (n + 1) ρ S = toS ρ (c ρ S) fun k S1 => if k = true then (match b ρ S1 with
    | .next ρ2 S2 => whileL c b n ρ2 S2
    | .cnt ρ2 S2 => whileL c b n ρ2 S2
    | .brk ρ2 S2 => .next ρ2 S2
    | r => r) else .next ρ S1 := rfl
end VI
set_option Elab.async false
set_option linter.all false
set_option maxRecDepth 100000
namespace VI
open PySem PySem.Spec PyProof.Rows L2

structure Fine (d : PyData) : Prop where
  sh : SeqAt.shaped d = true
  sw : d.showable = true
  ln : d.shown.length ≤ lim
theorem gEq_same {w u : W} {d : PyData} {S : Store} (hw : asD w S = some d) (hu : asD u S = some d) (h : SeqAt.shaped d = true) : gEq w u S = some (bt true, S) := by
  have eD : gEqD w u S = some (bt true, S) := by
    unfold gEqD
    rw [hw, hu]
    show (if SeqAt.shaped d = true ∧ SeqAt.shaped d = true then some (bt (PyData.eqv d d), S) else none) = _
    rw [if_pos ⟨h, h⟩, SeqAt.eqv_refl d (SeqAt.canLay_of_shaped h)]
  unfold gEq
  cases e : gEqS w u S with
  | none => exact eD
  | some p =>
    unfold gEqS at e
    split at e
    · rename_i x y
      rw [asD] at hw hu
      cases hw
      cases hu
      rw [beq_self_eq_true] at e
      cases e
      rfl
    · cases e
theorem gRepr_fine {w : W} {d : PyData} {S : Store} (hw : asD w S = some d) (h : Fine d) : gRepr [w] S = some (.d (.str d.shown), S) := by
  show (match asD w S with | some d => if d.showable = true ∧ d.hasDict = false ∧ d.depth ≤ 64 ∧ d.shown.length ≤ lim then some (W.d (.str d.shown), S) else none | none => none) = _
  rw [hw]
  show (if d.showable = true ∧ d.hasDict = false ∧ d.depth ≤ 64 ∧ d.shown.length ≤ lim then some (W.d (.str d.shown), S) else none) = _
  rw [if_pos ⟨h.sw, noD_of h.sh, SeqAt.depth_of_shaped h.sh, h.ln⟩]
def BG (S : Store) (l N : Nat) : Prop := ∃ b : Bag, S[l]? = some b.so ∧ b.Fit ∧ b.b2 ≤ N
theorem BG.lt {S : Store} {l N : Nat} (h : BG S l N) : l < S.length := by
  obtain ⟨b, h, _⟩ := h
  exact (List.getElem?_eq_some_iff.mp h).1
theorem BG.mono {S : Store} {l N M : Nat} (h : BG S l N) (m : N ≤ M) : BG S l M := by
  obtain ⟨b, h1, h2, h3⟩ := h
  exact ⟨b, h1, h2, by omega⟩
theorem BG.of {S S' : Store} {l N : Nat} (h : BG S l N) (e : S'[l]? = S[l]?) : BG S' l N := by
  obtain ⟨b, h1, h2, h3⟩ := h
  exact ⟨b, by rw [e]; exact h1, h2, h3⟩
theorem BG.push {S : Store} {l N : Nat} (h : BG S l N) (o : SO) : BG (S ++ [o]) l N := h.of (List.getElem?_append_left h.lt)
theorem BG.take {S : Store} {l N n : Nat} (h : BG S l N) (m : l < n) : BG (S.take n) l N := h.of (List.getElem?_take_of_lt m)
theorem BG.setne {S : Store} {l N j : Nat} {o : SO} (h : BG S l N) (m : j ≠ l) : BG (S.set j o) l N := h.of (List.getElem?_set_ne m)
theorem fcall_len {n : Nat} {g : List W → Store → R W} {ws : List W} {S S' : Store} {x : PyData} (eg : g ws S = .ok (.d x) S') (hz : S'.length = S.length) (hn : ws.length = n) : (if ws.length = n then frz S.length (g ws S) else R.bad) = .ok (.d x) S' := by
  rw [if_pos hn, eg]
  show R.ok _ (S'.take S.length) = _
  rw [List.take_of_length_le (by omega)]
theorem noX_ok {α : Type} {a : α} {S : Store} : noX (R.ok a S) = R.ok a S := rfl
theorem bag_loop {l : Nat} : ∀ (zs : List Int) (acc : List PyData) (ρ : Rho) (S : Store), ρ.length = 2 → S[l]? = some (.lst acc) → acc.length + zs.length < lim →
    lcL (fun _ => True) (gtName 1) fYes (fL gAbs (fAc (fVar 1) fA0)) ρ l (zs.map fun z => W.d (.int z)) S = .ok (.loc l) (S.set l (.lst (acc ++ zs.map fun z => .int (if z < 0 then -z else z))))
  | [], acc, ρ, S, hr, hS, _ => by
    simp only [List.map_nil, lcL, if_true, List.append_nil]
    rw [set_same hS]
  | z :: zs, acc, ρ, S, hr, hS, hz => by
    rw [List.length_cons] at hz
    have ea : fL gAbs (fAc (fVar 1) fA0) (ρ.set 1 (some (.d (.int z)))) S = .ok (.d (.int (if z < 0 then -z else z))) S := ev_L (ev_one (ev_var (List.getElem?_set_self (by omega)))) rfl
    have pt : lcPut l (.d (.int (if z < 0 then -z else z))) S = some (S.set l (.lst (acc ++ [.int (if z < 0 then -z else z)]))) := by
      simp only [lcPut, hS, if_pos (show acc.length < lim by omega)]
    have ih := bag_loop (l := l) zs (acc ++ [.int (if z < 0 then -z else z)]) ρ (S.set l (.lst (acc ++ [.int (if z < 0 then -z else z)]))) hr (at_set hS) (by rw [List.length_append, List.length_singleton]; omega)
    have fz : frz S.length (.ok (.d (.int (if z < 0 then -z else z))) S : R W) = .ok (.d (.int (if z < 0 then -z else z))) S := by
      show R.ok _ (S.take S.length) = _
      rw [List.take_length]
    rw [List.map_cons, lcL, if_pos trivial]
    simp only [gtName, noX_ok, fYes, R_ok, if_true, ea, fz, pt]
    rw [ih, List.set_set, List.append_assoc]
    rfl
theorem fcall_at {n : Nat} {g : List W → Store → R W} {fa : FA} {ρ : Rho} {S S1 S' : Store} {ws : List W} {x : PyData} (ea : fa ρ S = .ok ws S1) (eg : g ws S1 = .ok (.d x) S') (hz : S'.length = S1.length) (hn : ws.length = n) : fCall n g fa ρ S = .ok (.d x) S' := by
  unfold fCall
  rw [ea]
  exact fcall_len eg hz hn
theorem for_inv {I : Nat → Rho → Store → Prop} {i : Nat} {b : FS} (step : ∀ j w ρ S, I j ρ S → ∃ ρ' S', b (ρ.set i (some w)) S = .next ρ' S' ∧ I (j + 1) ρ' S') :
    ∀ (ws : List W) (j : Nat) (ρ : Rho) (S : Store), I j ρ S → ∃ ρ' S', forL (fun _ => True) (gtName i) b ws ρ S = .next ρ' S' ∧ I (j + ws.length) ρ' S'
  | [], j, ρ, S, h => ⟨ρ, S, by simp only [forL, if_true], h⟩
  | w :: ws, j, ρ, S, h => by
    obtain ⟨ρ1, S1, e1, h1⟩ := step j w ρ S h
    obtain ⟨ρ2, S2, e2, h2⟩ := for_inv step ws (j + 1) ρ1 S1 h1
    refine ⟨ρ2, S2, ?_, by rw [List.length_cons]; rw [show j + (ws.length + 1) = j + 1 + ws.length by omega]; exact h2⟩
    rw [forL, if_pos trivial]
    simp only [gtName, e1]
    exact e2
theorem rangeW_len (lo : Int) (n : Nat) : (rangeW lo n).length = n := by unfold rangeW; rw [List.length_map, List.length_range]
theorem for_invB {I : Nat → Rho → Store → Prop} {i m : Nat} {b : FS} (step : ∀ j w ρ S, j < m → I j ρ S → ∃ ρ' S', b (ρ.set i (some w)) S = .next ρ' S' ∧ I (j + 1) ρ' S') :
    ∀ (ws : List W) (j : Nat) (ρ : Rho) (S : Store), j + ws.length ≤ m → I j ρ S → ∃ ρ' S', forL (fun _ => True) (gtName i) b ws ρ S = .next ρ' S' ∧ I (j + ws.length) ρ' S'
  | [], j, ρ, S, _, h => ⟨ρ, S, by simp only [forL, if_true], h⟩
  | w :: ws, j, ρ, S, hm, h => by
    rw [List.length_cons] at hm
    obtain ⟨ρ1, S1, e1, h1⟩ := step j w ρ S (by omega) h
    obtain ⟨ρ2, S2, e2, h2⟩ := for_invB step ws (j + 1) ρ1 S1 (by omega) h1
    refine ⟨ρ2, S2, ?_, by rw [List.length_cons]; rw [show j + (ws.length + 1) = j + 1 + ws.length by omega]; exact h2⟩
    rw [forL, if_pos trivial]
    simp only [gtName, e1]
    exact e2
theorem rng_at {S : Store} (k : Nat) (h : k < 1000) : rng1 [nt k] S = .ok ⟨rangeW 0 k, fun _ => True⟩ S := by
  have hf : fit62 (k : Int) = true := by
    unfold fit62
    rw [Bool.and_eq_true, decide_eq_true_eq, decide_eq_true_eq]
    omega
  unfold rng1
  simp only [hf, if_true, Int.toNat_natCast]
theorem rng_nat {ρ : Rho} {S : Store} (k : Nat) (h : k < 1000) {i : Int} (e : i = (k : Int) := by rfl) : fRng rng1 (fAc (fC (.int i)) fA0) ρ S = .ok ⟨rangeW 0 k, fun _ => True⟩ S := by
  have e1 : fRng rng1 (fAc (fC (.int i)) fA0) ρ S = rng1 [.d (.int i)] S := rfl
  rw [e1, e]
  exact rng_at k h
/-! the law's own functions, whatever their numbers are -/
def bAlike : FS := (fRet (fAndV (f2 gEq (fVar 0) (fVar 1)) (f2 gEq (fL gRepr (fAc (fVar 0) fA0)) (fL gRepr (fAc (fVar 1) fA0)))))
theorem alike_run {w u : W} {d : PyData} {S : Store} (hw : asD w S = some d) (hu : asD u S = some d) (h : Fine d) : runB 2 bAlike [w, u] S = .ok (bt true) S := by
  show toR (bAlike [some w, some u] S) = _
  unfold bAlike
  have q : gEq (.d (.str d.shown)) (.d (.str d.shown)) S = some (bt true, S) := by
    show some (bt (d.shown == d.shown), S) = _
    rw [beq_self_eq_true]
  simp only [fSeq, fAsg, fVar, fC, f1, f2, fL, fAc, fA0, fTest, fAndT, fOrT, fNotT, fTru, fAndV, fOrV, fIfE, fIf, fRet, fAug, fDrop, fSl, fPart, fNoPart, intOf, gtName, R_ok, toS_ok, lift_some, boolW_ok, truR_b, List.getElem?_cons_zero, List.getElem?_cons_succ, List.set_cons_zero, List.set_cons_succ, gEq_same hw hu h.sh, gRepr_fine hw h, gRepr_fine hu h, q, toR]
noncomputable def bBag : FS := (fRet (fL gLive (fAc (fC (.int 0)) (fAc (fC (.int 1234567891)) (fAc (fC (.int 0)) (fAc (fLc (fItS (fSl gSlA (fVar 0) fNoPart (fPart (fC (.int 63))))) (gtName 1) fYes (fL gAbs (fAc (fVar 1) fA0)) [1]) fA0))))))
theorem bag_run {ns : List Int} (h : ns.length ≤ 63) : ∃ b : Bag, runB 2 bBag [scriptW ns] [] = .ok (.loc 0) [b.so] ∧ b.Fit ∧ b.b2 = 0 := by
  refine ⟨⟨0, 1234567891, 0, (ns.take 63).map fun z => if z < 0 then -z else z⟩, ?_, ⟨(by show (0 : Int) ≤ 1234567891 ∧ (1234567891 : Int) < 2147483647; decide), ?_⟩, rfl⟩
  · show toR (bBag [some (scriptW ns), none] []) = _
    unfold bBag
    have sl : gSlA (scriptW ns) none (some 63) [] = some (.d (.list ((ns.take 63).map PyData.int)), []) := by
      show some (W.d (.list (cutG (ns.map PyData.int) none (some 63))), ([] : Store)) = _
      have e : cutG (ns.map PyData.int) none (some 63) = (ns.take 63).map PyData.int := by
        unfold cutG
        have e1 : HT.sIx (ns.map PyData.int).length (ns.map PyData.int).length (some (63 : Int)) = min 63 (ns.map PyData.int).length := HT.sIx_nat _ _ 63
        rw [HT.sIx_none, List.drop_zero, e1, Nat.sub_zero, List.map_take, List.length_map, ← List.length_map (f := PyData.int), ← List.take_eq_take_min]
      rw [e]
    have lp := bag_loop (l := 0) (ns.take 63) [] [some (scriptW ns), none] [.lst []] rfl rfl (by rw [List.length_take, List.length_nil]; show 0 + min 63 ns.length < 16777216; omega)
    have it : fItS (fSl gSlA (fVar 0) fNoPart (fPart (fC (.int 63)))) [some (scriptW ns), none] [] = .ok ⟨((ns.take 63).map PyData.int).map W.d, fun _ => True⟩ [] := by
      simp only [fItS, fSeq, fAsg, fVar, fC, f1, f2, fL, fAc, fA0, fTest, fAndT, fOrT, fNotT, fTru, fAndV, fOrV, fIfE, fIf, fRet, fAug, fDrop, fSl, fPart, fNoPart, intOf, gtName, R_ok, toS_ok, lift_some, boolW_ok, truR_b, List.getElem?_cons_zero, List.getElem?_cons_succ, List.set_cons_zero, List.set_cons_succ, sl]
      rfl
    have mm : ((ns.take 63).map PyData.int).map W.d = (ns.take 63).map fun z => W.d (.int z) := by rw [List.map_map]; rfl
    have wp : wipeR [some (scriptW ns), none] [1] = [some (scriptW ns), none] := rfl
    have lc : fLc (fItS (fSl gSlA (fVar 0) fNoPart (fPart (fC (.int 63))))) (gtName 1) fYes (fL gAbs (fAc (fVar 1) fA0)) [1] [some (scriptW ns), none] [] = .ok (.d (.list ((ns.take 63).map fun z => .int (if z < 0 then -z else z)))) [] := by
      unfold fLc fLcL
      rw [it]
      show frz 0 (lcL _ _ _ _ (wipeR [some (scriptW ns), none] [1]) 0 (((ns.take 63).map PyData.int).map W.d) [.lst []]) = _
      rw [mm, wp, lp]
      rfl
    simp only [fSeq, fAsg, fVar, fC, f1, f2, fL, fAc, fA0, fTest, fAndT, fOrT, fNotT, fTru, fAndV, fOrV, fIfE, fIf, fRet, fAug, fDrop, fSl, fPart, fNoPart, intOf, gtName, R_ok, toS_ok, lift_some, boolW_ok, truR_b, List.getElem?_cons_zero, List.getElem?_cons_succ, List.set_cons_zero, List.set_cons_succ, lc]
    show toR (RF.ret (.loc 0) [.lst [.int 0, .int 1234567891, .int 0, .list ((ns.take 63).map fun z => PyData.int (if z < 0 then -z else z))]]) = _
    show R.ok _ _ = R.ok _ [SO.lst [.int 0, .int 1234567891, .int ((0 : Nat) : Int), .list (((ns.take 63).map fun z => if z < 0 then -z else z).map PyData.int)]]
    rw [List.map_map]
    rfl
  · show ((ns.take 63).map _).length < 1000
    rw [List.length_map, List.length_take]
    omega
/-- a number is taken -/
theorem take_bg {tk : List W → Store → R W} (T : Taker tk) {S : Store} {l N : Nat} {m : Int} (hb : BG S l N) (hN : N < 2 ^ 59) (hm : 0 < m ∧ m < 1073741824) :
    ∃ v S', tk [.loc l, .d (.int m)] S = .ok (.d (.int v)) S' ∧ (0 ≤ v ∧ v < m) ∧ S'.length = S.length ∧ BG S' l (N + 1) ∧ ∀ j, j ≠ l → S'[j]? = S[j]? := by
  obtain ⟨b, h1, h2, h3⟩ := hb
  refine ⟨_, _, T S l b m h1 h2 (by omega) hm, take_facts b hm.1, List.length_set .., ⟨_, at_set h1, (take_fit h2 m).1, ?_⟩, fun j hj => List.getElem?_set_ne (Ne.symm hj)⟩
  have := (take_fit h2 m).2
  omega
/-- one of a list -/
theorem some_bg {tk : List W → Store → R W} (T : Taker tk) {S : Store} {l N : Nat} {ds : List PyData} (hb : BG S l N) (hN : N < 2 ^ 59) (hd : 0 < ds.length ∧ ds.length < 1073741824) :
    ∃ x S', x ∈ ds ∧ runB 2 (bSome tk) [.loc l, .d (.list ds)] S = .ok (.d x) S' ∧ S'.length = S.length ∧ BG S' l (N + 1) ∧ ∀ j, j ≠ l → S'[j]? = S[j]? := by
  obtain ⟨b, h1, h2, h3⟩ := hb
  refine ⟨pick b ds, _, pick_mem hd.1, some_run T h1 h2 (by omega) hd, List.length_set .., ⟨_, at_set h1, (take_fit h2 _).1, ?_⟩, fun j hj => List.getElem?_set_ne (Ne.symm hj)⟩
  have := (take_fit h2 (ds.length : Int)).2
  omega

/-! small data -/
mutual
def smallD : PyData → Bool
  | .none => true
  | .bool _ => true
  | .int i => decide (i.natAbs < 999999999999)
  | .str x => okc x.cps.toList
  | .list xs => smallDs xs
  | .tuple xs => smallDs xs
  | .dict _ => false
def smallDs : List PyData → Bool
  | [] => true
  | x :: xs => smallD x && smallDs xs
end
theorem log_sm {i : Int} (h : i.natAbs < 999999999999) : i.natAbs.log2 < 40 := by
  by_cases z : i.natAbs = 0
  · rw [z]; decide
  · exact (Nat.log2_lt z).mpr (by have : (2 : Nat) ^ 40 = 1099511627776 := by decide
                                  omega)
theorem leaf_sm {i : Int} (h : i.natAbs < 999999999999) : (PyData.shown (.int i)).length ≤ 13 := PyData.shown_int_le2 (by omega) (by omega)
theorem leaf_tx {x : Str} (h : okc x.cps.toList = true) : (x.cps.toList.all fun c => decide (c < 16 ^ 8)) = true := by
  refine List.all_eq_true.mpr fun c m => ?_
  have := List.all_eq_true.mp h c m
  rw [decide_eq_true_eq] at this
  exact decide_eq_true (by have : (16 : Nat) ^ 8 = 4294967296 := by decide
                           omega)
mutual
theorem small_lay : ∀ d : PyData, smallD d = true → PyData.canLay0 d = true
  | .none, _ => rfl
  | .bool _, _ => rfl
  | .int _, _ => rfl
  | .str x, h => by
    show PyData.strOk x = true
    have := strOk_tx (a := x.cps.toList) h
    rwa [show tx x.cps.toList = x from SX.S_tl x] at this
  | .list xs, h => small_lays xs h
  | .tuple xs, h => small_lays xs h
  | .dict _, h => by cases h
theorem small_lays : ∀ ds : List PyData, smallDs ds = true → PyData.canLayAll0 ds = true
  | [], _ => rfl
  | x :: xs, h => by
    have h2 : (smallD x && smallDs xs) = true := h
    rw [Bool.and_eq_true] at h2
    show (PyData.canLay0 x && PyData.canLayAll0 xs) = true
    rw [small_lay x h2.1, small_lays xs h2.2]
    rfl
end
mutual
theorem small_show : ∀ d : PyData, smallD d = true → PyData.showable d = true
  | .none, _ => rfl
  | .bool _, _ => rfl
  | .int i, h => decide_eq_true (Nat.lt_trans (log_sm (of_decide_eq_true h)) (by decide))
  | .str x, h => rfl
  | .list xs, h => small_shows xs h
  | .tuple xs, h => small_shows xs h
  | .dict _, h => by cases h
theorem small_shows : ∀ ds : List PyData, smallDs ds = true → PyData.showableAll ds = true
  | [], _ => rfl
  | x :: xs, h => by
    have h2 : (smallD x && smallDs xs) = true := h
    rw [Bool.and_eq_true] at h2
    show (PyData.showable x && PyData.showableAll xs) = true
    rw [small_show x h2.1, small_shows xs h2.2]
    rfl
end
mutual
theorem small_leaf : ∀ d : PyData, smallD d = true → PyData.leavesShort 13 d = true
  | .none, _ => rfl
  | .bool _, _ => rfl
  | .int i, h => decide_eq_true (leaf_sm (of_decide_eq_true h))
  | .str x, h => leaf_tx h
  | .list xs, h => small_leafs xs h
  | .tuple xs, h => small_leafs xs h
  | .dict _, h => by cases h
theorem small_leafs : ∀ ds : List PyData, smallDs ds = true → PyData.leavesShortAll 13 ds = true
  | [], _ => rfl
  | x :: xs, h => by
    have h2 : (smallD x && smallDs xs) = true := h
    rw [Bool.and_eq_true] at h2
    show (PyData.leavesShort 13 x && PyData.leavesShortAll 13 xs) = true
    rw [small_leaf x h2.1, small_leafs xs h2.2]
    rfl
end
/-- small, of a depth, of a bulk -/
structure Sm (k b : Nat) (d : PyData) : Prop where
  sm : smallD d = true
  dp : d.depth ≤ k
  bk : d.bulk ≤ b
structure Sms (k b : Nat) (ds : List PyData) : Prop where
  sm : smallDs ds = true
  dp : PyData.depthAll ds ≤ k
  bk : PyData.bulkAll ds ≤ b
theorem Sm.int {i : Int} (h : i.natAbs < 999999999999) {k b : Nat} : Sm k b (.int i) := ⟨decide_eq_true h, Nat.zero_le _, Nat.zero_le _⟩
theorem Sm.bool {i : Bool} {k b : Nat} : Sm k b (.bool i) := ⟨rfl, Nat.zero_le _, Nat.zero_le _⟩
theorem Sm.mono {k b k' b' : Nat} {d : PyData} (h : Sm k b d) (hk : k ≤ k') (hb : b ≤ b') : Sm k' b' d := ⟨h.sm, Nat.le_trans h.dp hk, Nat.le_trans h.bk hb⟩
theorem Sms.mono {k b k' b' : Nat} {d : List PyData} (h : Sms k b d) (hk : k ≤ k') (hb : b ≤ b') : Sms k' b' d := ⟨h.sm, Nat.le_trans h.dp hk, Nat.le_trans h.bk hb⟩
theorem Sms.nil {k b : Nat} : Sms k b [] := ⟨rfl, Nat.zero_le _, Nat.zero_le _⟩
theorem Sms.cons {k b1 b2 : Nat} {d : PyData} {ds : List PyData} (h : Sm k b1 d) (hs : Sms k b2 ds) : Sms k (b1 + 1 + b2) (d :: ds) := by
  refine ⟨?_, Nat.max_le.mpr ⟨h.dp, hs.dp⟩, ?_⟩
  · show (smallD d && smallDs ds) = true
    rw [h.sm, hs.sm]
    rfl
  · show d.bulk + 1 + PyData.bulkAll ds ≤ _
    have := h.bk
    have := hs.bk
    omega
theorem Sms.one {k b : Nat} {d : PyData} (h : Sm k b d) : Sms k (b + 1) [d] := (Sms.cons h (Sms.nil (b := 0))).mono (Nat.le_refl _) (by omega)
theorem Sm.tuple {k b : Nat} {ds : List PyData} (h : Sms k b ds) : Sm (k + 1) b (.tuple ds) := ⟨h.sm, Nat.succ_le_succ h.dp, h.bk⟩
theorem Sm.list {k b : Nat} {ds : List PyData} (h : Sms k b ds) : Sm (k + 1) b (.list ds) := ⟨h.sm, Nat.succ_le_succ h.dp, h.bk⟩
theorem Sms.all {k b : Nat} : ∀ {ds : List PyData}, (∀ d ∈ ds, Sm k b d) → Sms k (ds.length * (b + 1)) ds
  | [], _ => Sms.nil
  | d :: ds, h => (Sms.cons (h d (by simp)) (Sms.all fun x m => h x (by simp [m]))).mono (Nat.le_refl _) (by rw [List.length_cons, Nat.succ_mul]; omega)
theorem Sms.append {k b1 b2 : Nat} : ∀ {ds es : List PyData}, Sms k b1 ds → Sms k b2 es → Sms k (b1 + b2) (ds ++ es)
  | [], es, h, h2 => h2.mono (Nat.le_refl _) (by omega)
  | d :: ds, es, h, h2 => by
    have e : (smallD d && smallDs ds) = true := h.sm
    rw [Bool.and_eq_true] at e
    have e2 : max d.depth (PyData.depthAll ds) ≤ k := h.dp
    rw [Nat.max_le] at e2
    have e3 : d.bulk + 1 + PyData.bulkAll ds ≤ b1 := h.bk
    have r := Sms.append (b1 := PyData.bulkAll ds) (b2 := b2) ⟨e.2, e2.2, Nat.le_refl _⟩ h2
    exact (Sms.cons (b1 := d.bulk) ⟨e.1, e2.1, Nat.le_refl _⟩ r).mono (Nat.le_refl _) (by omega)
theorem Sm.fine {k b : Nat} {d : PyData} (h : Sm k b d) (hk : k ≤ 64) (hb : b ≤ 1000000) : Fine d := by
  refine ⟨?_, small_show d h.sm, ?_⟩
  · unfold SeqAt.shaped
    rw [small_lay d h.sm, Bool.true_and]
    exact decide_eq_true (Nat.le_trans h.dp hk)
  · have r := PyData.shown_le_bulk 13 (by decide) d (small_leaf d h.sm)
    have := h.bk
    show _ ≤ 16777216
    omega
end VI
set_option Elab.async false
set_option linter.all false
set_option maxRecDepth 100000
namespace VI
open PySem PySem.Spec PyProof.Rows L2

/-! comprehensions whose parts leave the store -/
abbrev iw (i : Int) : W := .d (.int i)
abbrev tu (xs : List PyData) : W := .d (.tuple xs)
abbrev sw (x : Str) : W := .d (.str x)
theorem ret_ok {r : RF} {w : W} {S : Store} (h : r = .ret w S) : toR r = .ok w S := by rw [h]; rfl
theorem frz_same {x : PyData} {S : Store} : frz S.length (.ok (.d x) S : R W) = .ok (.d x) S := by
  show R.ok _ (S.take S.length) = _
  rw [List.take_length]
def Same (S S' : Store) : Prop := S.length ≤ S'.length ∧ ∀ i, i < S.length → S'[i]? = S[i]?
theorem Same.refl (S : Store) : Same S S := ⟨Nat.le_refl _, fun _ _ => rfl⟩
theorem Same.push (S : Store) (o : SO) : Same S (S ++ [o]) := ⟨by rw [List.length_append]; omega, fun i h => List.getElem?_append_left h⟩
theorem Same.set {S S' : Store} (h : Same S S') {c : Nat} {o : SO} (hc : S.length ≤ c) : Same S (S'.set c o) := ⟨by rw [List.length_set]; exact h.1, fun i hi => by rw [List.getElem?_set_ne (by omega)]; exact h.2 i hi⟩
theorem Same.trans {S S' S2 : Store} (h : Same S S') (h2 : Same S' S2) : Same S S2 := ⟨Nat.le_trans h.1 h2.1, fun i hi => by rw [h2.2 i (by have := h.1; omega)]; exact h.2 i hi⟩
theorem Same.at {S S' : Store} (h : Same S S') {i : Nat} {o : SO} (e : S[i]? = some o) : S'[i]? = some o := by
  rw [h.2 i (List.getElem?_eq_some_iff.mp e).1]
  exact e
theorem lc_gen {S0 : Store} {ok : Store → Prop} {g : FG} {t : FT} {el : FE} {ρ : Rho} {c : Nat} {f : W → PyData} {b : W → Bool} (hc : S0.length ≤ c) (hok : ∀ S', Same S0 S' → ok S') : ∀ (ws : List W) (acc : List PyData) (S : Store), Same S0 S → S[c]? = some (.lst acc) → acc.length + ws.length < 1000000 →
    (∀ w ∈ ws, ∀ S', Same S0 S' → ∃ ρ1, g w ρ = some ρ1 ∧ t ρ1 S' = .ok (b w) S' ∧ (b w = true → el ρ1 S' = .ok (.d (f w)) S')) →
    lcL ok g t el ρ c ws S = .ok (.loc c) (S.set c (.lst (acc ++ (ws.filter b).map f)))
  | [], acc, S, hs, hS, hz, he => by
    simp only [lcL, if_pos (hok S hs), List.filter_nil, List.map_nil, List.append_nil]
    rw [set_same hS]
  | w :: ws, acc, S, hs, hS, hz, he => by
    rw [List.length_cons] at hz
    obtain ⟨ρ1, eg, et, ee⟩ := he w (by simp) S hs
    rw [lcL, if_pos (hok S hs), eg]
    simp only [et, noX_ok, R_ok]
    cases hb : b w with
    | false =>
      have ih := lc_gen hc hok (f := f) (b := b) (t := t) (el := el) (g := g) (ρ := ρ) ws acc S hs hS (by omega) fun w' m => he w' (by simp [m])
      simp only [Bool.false_eq_true, if_false]
      rw [ih, List.filter_cons_of_neg (by simp [hb])]
    | true =>
      have pt : lcPut c (.d (f w)) S = some (S.set c (.lst (acc ++ [f w]))) := by
        simp only [lcPut, hS, if_pos (show acc.length < lim by show acc.length < 16777216; omega)]
      have ih := lc_gen hc hok (f := f) (b := b) (t := t) (el := el) (g := g) (ρ := ρ) ws (acc ++ [f w]) (S.set c (.lst (acc ++ [f w]))) (hs.set hc) (at_set hS) (by rw [List.length_append, List.length_singleton]; omega) fun w' m => he w' (by simp [m])
      simp only [if_true, ee hb, frz_same, noX_ok, R_ok, pt]
      rw [ih, List.set_set, List.filter_cons_of_pos hb, List.map_cons, List.append_assoc]
      rfl
theorem flcL_gen {it : FK} {g : FG} {t : FT} {el : FE} {vs : List Nat} {ρ : Rho} {S : Store} {ws : List W} {ok : Store → Prop} {f : W → PyData} {b : W → Bool} (hit : it ρ S = .ok ⟨ws, ok⟩ S) (hz : ws.length < 1000000) (hok : ∀ S', Same S S' → ok S')
    (he : ∀ w ∈ ws, ∀ S', Same S S' → ∃ ρ1, g w (wipeR ρ vs) = some ρ1 ∧ t ρ1 S' = .ok (b w) S' ∧ (b w = true → el ρ1 S' = .ok (.d (f w)) S')) :
    fLcL it g t el vs ρ S = .ok (.loc S.length) (S ++ [.lst ((ws.filter b).map f)]) := by
  have lp := lc_gen (S0 := S) (c := S.length) (ρ := wipeR ρ vs) (Nat.le_refl _) hok ws [] (S ++ [.lst []]) (Same.push S _) (by rw [List.getElem?_append_right (Nat.le_refl _), Nat.sub_self]; rfl) (by rw [List.length_nil]; omega) he
  unfold fLcL
  rw [hit, R_ok]
  show lcL _ _ _ _ _ S.length _ _ = _
  rw [lp]
  congr 1
  rw [List.set_append_right _ _ (Nat.le_refl _), Nat.sub_self, List.nil_append]
  rfl
theorem flc_gen {it : FK} {g : FG} {t : FT} {el : FE} {vs : List Nat} {ρ : Rho} {S : Store} {ws : List W} {ok : Store → Prop} {f : W → PyData} {b : W → Bool} (hit : it ρ S = .ok ⟨ws, ok⟩ S) (hz : ws.length < 1000000) (hok : ∀ S', Same S S' → ok S')
    (he : ∀ w ∈ ws, ∀ S', Same S S' → ∃ ρ1, g w (wipeR ρ vs) = some ρ1 ∧ t ρ1 S' = .ok (b w) S' ∧ (b w = true → el ρ1 S' = .ok (.d (f w)) S')) :
    fLc it g t el vs ρ S = .ok (.d (.list ((ws.filter b).map f))) S := by
  unfold fLc
  rw [flcL_gen hit hz hok he]
  have fw : frzW S.length (S ++ [.lst ((ws.filter b).map f)]) (.loc S.length) = some (.d (.list ((ws.filter b).map f))) := by
    unfold frzW
    rw [if_neg (by omega), List.getElem?_append_right (Nat.le_refl _), Nat.sub_self]
    rfl
  show (match frzW S.length (S ++ [.lst ((ws.filter b).map f)]) (.loc S.length) with | some w' => R.ok w' ((S ++ [SO.lst ((ws.filter b).map f)]).take S.length) | none => R.bad) = _
  rw [fw]
  show R.ok _ ((S ++ [SO.lst ((ws.filter b).map f)]).take S.length) = _
  rw [List.take_left]
theorem filter_yes {ws : List W} : ws.filter (fun _ => true) = ws := List.filter_eq_self.mpr fun _ _ => rfl
/-- without a test -/
theorem flc_all {it : FK} {g : FG} {el : FE} {vs : List Nat} {ρ : Rho} {S : Store} {ws : List W} {ok : Store → Prop} {f : W → PyData} (hit : it ρ S = .ok ⟨ws, ok⟩ S) (hz : ws.length < 1000000) (hok : ∀ S', Same S S' → ok S')
    (he : ∀ w ∈ ws, ∀ S', Same S S' → ∃ ρ1, g w (wipeR ρ vs) = some ρ1 ∧ el ρ1 S' = .ok (.d (f w)) S') : fLc it g fYes el vs ρ S = .ok (.d (.list (ws.map f))) S := by
  have := flc_gen (t := fYes) (b := fun _ => true) (f := f) hit hz hok fun w m S' s => by
    obtain ⟨ρ1, e1, e2⟩ := he w m S' s
    exact ⟨ρ1, e1, rfl, fun _ => e2⟩
  rw [filter_yes] at this
  exact this
theorem flcL_all {it : FK} {g : FG} {el : FE} {vs : List Nat} {ρ : Rho} {S : Store} {ws : List W} {ok : Store → Prop} {f : W → PyData} (hit : it ρ S = .ok ⟨ws, ok⟩ S) (hz : ws.length < 1000000) (hok : ∀ S', Same S S' → ok S')
    (he : ∀ w ∈ ws, ∀ S', Same S S' → ∃ ρ1, g w (wipeR ρ vs) = some ρ1 ∧ el ρ1 S' = .ok (.d (f w)) S') : fLcL it g fYes el vs ρ S = .ok (.loc S.length) (S ++ [.lst (ws.map f)]) := by
  have := flcL_gen (t := fYes) (b := fun _ => true) (f := f) hit hz hok fun w m S' s => by
    obtain ⟨ρ1, e1, e2⟩ := he w m S' s
    exact ⟨ρ1, e1, rfl, fun _ => e2⟩
  rw [filter_yes] at this
  exact this
/-- a walk over pure data -/
theorem it_pure {a : FE} {ρ : Rho} {S : Store} {x : PyData} {xs : List PyData} (ea : a ρ S = .ok (.d x) S) (hx : x = .list xs ∨ x = .tuple xs) : ∃ ok, (∀ S', ok S') ∧ fItS a ρ S = .ok ⟨xs.map W.d, ok⟩ S := by
  unfold fItS
  rw [ea]
  rcases hx with rfl | rfl
  · exact ⟨fun _ => True, fun _ => trivial, rfl⟩
  · exact ⟨fun _ => True, fun _ => trivial, rfl⟩
end VI
set_option Elab.async false
set_option linter.all false
set_option maxRecDepth 100000
namespace VI
open PySem PySem.Spec PyProof.Rows L2

/-! alike, of data with dicts too -/
theorem gEqA_of {w u : W} {S : Store} (h : gEq w u S = some (bt true, S)) : gEqA w u S = some (bt true, S) := by
  unfold gEqA
  rw [h]
theorem gEqA_txt {t : Str} {S : Store} : gEqA (.d (.str t)) (.d (.str t)) S = some (bt true, S) := by
  refine gEqA_of ?_
  show some (bt (t == t), S) = _
  rw [beq_self_eq_true]
theorem gEqA_same {w u : W} {xs : List PyData} {S : Store} (hw : asD w S = some (.list xs)) (hu : asD u S = some (.list xs)) (hk : eqOks xs = true) (hd : PyData.depthAll xs ≤ 60) : gEqA w u S = some (bt true, S) := by
  have hs : gEqS w u S = none := by
    unfold gEqS
    split
    · rw [asD] at hw; cases hw
    · rfl
  have hR : gEqR w u S = some (bt true, S) := by
    unfold gEqR
    rw [hw, hu]
    show (if samePs xs xs = true ∧ eqOks xs = true ∧ PyData.depthAll xs ≤ 60 then some (W.d (.bool true), S) else none) = _
    rw [if_pos ⟨samePs_self xs, hk, hd⟩]
  unfold gEqA gEq
  rw [hs]
  dsimp only
  unfold gEqD
  rw [hw, hu]
  dsimp only
  by_cases h : SeqAt.shaped (.list xs) = true ∧ SeqAt.shaped (.list xs) = true
  · rw [if_pos h, SeqAt.eqv_refl _ (SeqAt.canLay_of_shaped h.1)]
  · rw [if_neg h]
    exact hR
theorem gReprA_of {w : W} {S : Store} {t : Str} (h : gRepr [w] S = some (.d (.str t), S)) : gReprA [w] S = some (.d (.str t), S) := by
  unfold gReprA orO
  rw [h]
/-- what repr needs to tell data with dicts -/
structure FineX (d : PyData) : Prop where
  ok : okD d = true
  sw : (realD d).showable = true
  dp : (realD d).depth ≤ 64
  ln : (realD d).shown.length ≤ lim
theorem gReprA_fine {d : PyData} (h : FineX d) (nd : ∀ ps, d ≠ .dict ps) : ∃ t, ∀ (w : W) (S : Store), asD w S = some d → gReprA [w] S = some (.d (.str t), S) := by
  by_cases hc : d.showable = true ∧ d.hasDict = false ∧ d.depth ≤ 64 ∧ d.shown.length ≤ lim
  · refine ⟨d.shown, fun w S hw => gReprA_of ?_⟩
    show (match asD w S with | some d => if d.showable = true ∧ d.hasDict = false ∧ d.depth ≤ 64 ∧ d.shown.length ≤ lim then some (W.d (.str d.shown), S) else none | none => none) = _
    rw [hw]
    show (if d.showable = true ∧ d.hasDict = false ∧ d.depth ≤ 64 ∧ d.shown.length ≤ lim then some (W.d (.str d.shown), S) else none) = _
    rw [if_pos hc]
  · refine ⟨(realD d).shown, fun w S hw => ?_⟩
    have h1 : gRepr [w] S = none := by
      show (match asD w S with | some d => if d.showable = true ∧ d.hasDict = false ∧ d.depth ≤ 64 ∧ d.shown.length ≤ lim then some (W.d (.str d.shown), S) else none | none => none) = _
      rw [hw]
      show (if d.showable = true ∧ d.hasDict = false ∧ d.depth ≤ 64 ∧ d.shown.length ≤ lim then some (W.d (.str d.shown), S) else none) = _
      rw [if_neg hc]
    have h2 : gReprX [w] S = none := by
      unfold gReprX
      split
      · rename_i e
        have e' := (List.cons.inj e).1
        subst e'
        rw [asD] at hw
        cases hw
        exact (nd _ rfl).elim
      · rfl
    have h3 : gReprG [w] S = some (.d (.str (realD d).shown), S) := by
      show (match asD w S with | some d => if okD d = true ∧ (realD d).showable = true ∧ (realD d).depth ≤ 64 ∧ (realD d).shown.length ≤ lim then some (W.d (.str (realD d).shown), S) else none | none => none) = _
      rw [hw]
      show (if okD d = true ∧ (realD d).showable = true ∧ (realD d).depth ≤ 64 ∧ (realD d).shown.length ≤ lim then some (W.d (.str (realD d).shown), S) else none) = _
      rw [if_pos ⟨h.ok, h.sw, h.dp, h.ln⟩]
    unfold gReprA
    rw [h1, h2, h3]
    rfl
def bAlikeA : FS := (fRet (fAndV (f2 gEqA (fVar 0) (fVar 1)) (f2 gEqA (fL gReprA (fAc (fVar 0) fA0)) (fL gReprA (fAc (fVar 1) fA0)))))
theorem alikeA_of {w u : W} {S : Store} {t : Str} (h1 : gEqA w u S = some (bt true, S)) (h2 : gReprA [w] S = some (.d (.str t), S)) (h3 : gReprA [u] S = some (.d (.str t), S)) : runB 2 bAlikeA [w, u] S = .ok (bt true) S := by
  show toR (bAlikeA [some w, some u] S) = _
  unfold bAlikeA
  simp only [fSeq, fAsg, fVar, fC, f1, f2, fL, fAc, fA0, fTest, fAndT, fOrT, fNotT, fTru, fAndV, fOrV, fIfE, fIf, fRet, fAug, fDrop, fSl, fPart, fNoPart, intOf, gtName, R_ok, toS_ok, lift_some, boolW_ok, truR_b, List.getElem?_cons_zero, List.getElem?_cons_succ, List.set_cons_zero, List.set_cons_succ, h1, h2, h3, gEqA_txt, toR]
theorem alikeA_run {w u : W} {d : PyData} {S : Store} (hw : asD w S = some d) (hu : asD u S = some d) (h : Fine d) : runB 2 bAlikeA [w, u] S = .ok (bt true) S :=
  alikeA_of (gEqA_of (gEq_same hw hu h.sh)) (gReprA_of (gRepr_fine hw h)) (gReprA_of (gRepr_fine hu h))
theorem alikeA_runX {w u : W} {xs : List PyData} {S : Store} (hw : asD w S = some (.list xs)) (hu : asD u S = some (.list xs)) (hk : eqOks xs = true) (hd : PyData.depthAll xs ≤ 60) (h : FineX (.list xs)) : runB 2 bAlikeA [w, u] S = .ok (bt true) S := by
  obtain ⟨t, ht⟩ := gReprA_fine h (fun _ z => nomatch z)
  exact alikeA_of (gEqA_same hw hu hk hd) (ht w S hw) (ht u S hu)
end VI
set_option Elab.async false
set_option linter.all false
set_option maxRecDepth 100000
namespace VI
open PySem PySem.Spec PyProof.Rows L2
namespace Q0

def sml : List Nat := [97,98,99,100,101,102,103,104,105,106,107,108,109,110,111,112,113,114,115,116,117,118,119,120,121,122]
def grl : List Nat := [65,66,67,68,69,70,71,72,73,74,75,76,77,78,79,80,81,82,83,84,85,86,87,88,89,90]
def fig : List Nat := [48,49,50,51,52,53,54,55,56,57]
def sgn : List Nat := sml ++ grl ++ fig ++ [95]
theorem k_sml : k_SMALL_LETTERS = .str (tx sml) := rfl
theorem k_grl : k_GREAT_LETTERS = .str (tx grl) := rfl
theorem k_sgn : k_NAME_SIGNS = .str (tx sgn) := rfl
/-- spelt by one of some signs, then by any -/
def spelt (a first : List Nat) : Bool := decide (1 ≤ a.length) && decide (a.length ≤ 20) && decide (∃ c ∈ a.head?, c ∈ first) && a.all (fun c => decide (c ∈ sgn))
theorem isi_str {a : List Nat} {S : Store} : gIsiA "str" (st a) S = some (bt true, S) := rfl
theorem g_nin {a : List Nat} {c : Nat} {S : Store} : gNotInA (st [c]) (st a) S = some (bt (!decide (c ∈ a)), S) := by
  have e2 := SX.in_one a c
  show some (bt (!(!(Builtin.Str.occurrences (tx a) (tx [c]) 0 (tx a).length 1).isEmpty)), S) = _
  rw [e2]
theorem it_str {a : FE} {ρ : Rho} {S : Store} {xs : List Nat} (ea : a ρ S = .ok (st xs) S) : fItStr a ρ S = .ok ⟨xs.map fun c => st [c], fun _ => True⟩ S := by
  unfold fItStr
  rw [ea]
  rfl
theorem ev_fls {t : FT} {p q : FS} {ρ : Rho} {S : Store} : True := trivial
theorem boolsD_map : ∀ bs : List Bool, boolsD (bs.map PyData.bool) = some bs
  | [] => rfl
  | b :: bs => by
    show (boolsD (bs.map PyData.bool)).map _ = _
    rw [boolsD_map bs]
    rfl
theorem len_ok {xs : List Nat} {ρ : Rho} {S : Store} {lo hi : FE} (hl : xs.length ≤ 1000) (ev : ρ[0]? = some (some (st xs))) (e1 : lo ρ S = .ok (.d (.int 1)) S) (e2 : hi ρ S = .ok (.d (.int 20)) S) : fTest (fChain gLe gLe lo (fL gLen (fAc (fVar 0) fA0)) hi) ρ S = .ok (decide (1 ≤ xs.length) && decide (xs.length ≤ 20)) S := by
  have gl : fL gLen (fAc (fVar 0) fA0) ρ S = .ok (nt xs.length) S := ev_L (ev_one (ev_var ev)) (g_len (by show _ ≤ 16777216; omega))
  have l1 : gLe (.d (.int 1)) (nt xs.length) S = some (bt (decide (1 ≤ xs.length)), S) := g_le (i := 1)
  have l2 : gLe (nt xs.length) (.d (.int 20)) S = some (bt (decide (xs.length ≤ 20)), S) := g_le (j := 20)
  unfold fTest fChain
  rw [e1, R_ok, gl, R_ok, l1]
  show ((match bt (decide (1 ≤ xs.length)) with
    | .d (.bool true) => (hi ρ S).bind fun z S4 => lift (gLe (nt xs.length) z S4)
    | .d (.bool false) => .ok (.d (.bool false)) S
    | _ => .bad) : R W).bind boolW = _
  by_cases h : 1 ≤ xs.length
  · rw [decide_eq_true h]
    show ((hi ρ S).bind fun z S4 => lift (gLe (nt xs.length) z S4)).bind boolW = _
    rw [e2, R_ok, l2]
    rfl
  · rw [decide_eq_false h]
    rfl
theorem k_begins (n : Nat) {S : Store} {xs fs : List Nat} (hl : xs.length ≤ 1000) : callN (n + 1) 2 [st xs, st fs] S = .ok (bt (spelt xs fs)) S := by
  show toR (b2 (callN n) [some (st xs), some (st fs), none] S) = _
  have lo := len_ok (ρ := [some (st xs), some (st fs), none]) (S := S) (lo := fC (.int 1)) (hi := fC k_LONGEST_NAME) hl rfl rfl rfl
  have ty : fNotT (fTru (f1 (gIsiA "str") (fVar 0))) [some (st xs), some (st fs), none] S = .ok false S := rfl
  have cond : fOrT (fNotT (fTru (f1 (gIsiA "str") (fVar 0)))) (fNotT (fTest (fChain gLe gLe (fC (.int 1)) (fL gLen (fAc (fVar 0) fA0)) (fC k_LONGEST_NAME)))) [some (st xs), some (st fs), none] S = .ok (!(decide (1 ≤ xs.length) && decide (xs.length ≤ 20))) S := by
    unfold fOrT
    rw [ty, R_ok, if_neg (by decide)]
    unfold fNotT
    rw [lo]
    rfl
  unfold b2
  cases q : (decide (1 ≤ xs.length) && decide (xs.length ≤ 20)) with
  | false =>
    rw [q] at cond
    have e : spelt xs fs = false := by unfold spelt; rw [q]; rfl
    rw [e]
    exact ret_ok (ev_seqR ((ev_yes cond).trans (ev_ret rfl)))
  | true =>
    rw [q] at cond
    cases xs with
    | nil => cases q
    | cons c r =>
      have e : spelt (c :: r) fs = (decide (c ∈ fs) && (c :: r).all fun c => decide (c ∈ sgn)) := by
        unfold spelt
        rw [q, Bool.true_and]
        congr 1
        simp
      rw [e]
      refine ret_ok ((ev_seq ((ev_no cond).trans rfl)).trans (ev_ret ?_))
      have ix : f2 gIx (fVar 0) (fC (.int 0)) [some (st (c :: r)), some (st fs), none] S = .ok (st [c]) S := ev_f2 (ev_var rfl) rfl (g_ix (a := c :: r) (i := 0) rfl (by show _ ≤ 16777216; omega))
      have fi : f2 gInA (f2 gIx (fVar 0) (fC (.int 0))) (fVar 1) [some (st (c :: r)), some (st fs), none] S = .ok (bt (decide (c ∈ fs))) S := ev_f2 ix (ev_var rfl) g_in
      have al : fL gAll (fAc (fLc (fItStr (fVar 0)) (gtName 2) fYes (f2 gInA (fVar 2) (fC k_NAME_SIGNS)) [2]) fA0) [some (st (c :: r)), some (st fs), none] S = .ok (bt ((c :: r).all fun c => decide (c ∈ sgn))) S := by
        have lc := flc_all (g := gtName 2) (el := f2 gInA (fVar 2) (fC k_NAME_SIGNS)) (vs := [2]) (ρ := [some (st (c :: r)), some (st fs), none]) (S := S) (f := fun (w : W) => match w with | W.d (.str z) => PyData.bool (decide (z.cps.toList.headD 0 ∈ sgn)) | _ => PyData.none) (it_str (a := fVar 0) (xs := c :: r) (ev_var rfl)) (by rw [List.length_map]; omega) (fun _ _ => trivial) fun w m S' s => by
          obtain ⟨d, md, rfl⟩ := List.mem_map.mp m
          exact ⟨_, rfl, ev_f2 (ev_var rfl) rfl (by rw [k_sgn]; exact g_in)⟩
        refine ev_L (ev_one lc) ?_
        have em : ((c :: r).map fun c => st [c]).map (fun (w : W) => match w with | W.d (.str z) => PyData.bool (decide (z.cps.toList.headD 0 ∈ sgn)) | _ => PyData.none) = ((c :: r).map fun c => decide (c ∈ sgn)).map PyData.bool := by
          rw [List.map_map, List.map_map]
          rfl
        rw [em]
        have ea : asLst (W.d (.list (((c :: r).map fun c => decide (c ∈ sgn)).map PyData.bool))) S = some (((c :: r).map fun c => decide (c ∈ sgn)).map PyData.bool) := rfl
        unfold gAll
        simp only [ea, boolsD_map]
        congr 4
        rw [List.all_map]
        rfl
      unfold fAndV
      rw [fi, R_ok]
      by_cases h : c ∈ fs
      · rw [decide_eq_true h, Bool.true_and]
        exact al
      · rw [decide_eq_false h]
        rfl
theorem all_nil {xs ys : List Nat} : decide ((xs.filter fun c => !decide (c ∈ ys)) = []) = xs.all fun c => decide (c ∈ ys) := by
  rw [Bool.eq_iff_iff, decide_eq_true_eq, List.filter_eq_nil_iff, List.all_eq_true]
  constructor
  · intro h c m
    have := h c m
    simpa using this
  · intro h c m
    have := h c m
    simpa using this
theorem sm_txs : ∀ zs : List Nat, okc zs = true → smallDs (zs.map fun c => PyData.str (tx [c])) = true ∧ PyData.depthAll (zs.map fun c => PyData.str (tx [c])) = 0
  | [], _ => ⟨rfl, rfl⟩
  | c :: zs, h => by
    have h2 : (decide (c < 1114112) && okc zs) = true := h
    rw [Bool.and_eq_true] at h2
    have ih := sm_txs zs h2.2
    refine ⟨?_, ?_⟩
    · show (smallD (.str (tx [c])) && smallDs _) = true
      rw [ih.1, Bool.and_true]
      show (decide (c < 1114112) && true) = true
      rw [h2.1]
      rfl
    · show max 0 (PyData.depthAll _) = 0
      rw [ih.2]
      rfl
theorem sh_txs {zs : List Nat} (h : okc zs = true) : SeqAt.shaped (.list (zs.map fun c => PyData.str (tx [c]))) = true := by
  have s := sm_txs zs h
  unfold SeqAt.shaped
  rw [small_lay (.list (zs.map fun c => PyData.str (tx [c]))) s.1, Bool.true_and]
  have e2 : PyData.depth (.list (zs.map fun c => PyData.str (tx [c]))) = 1 := by
    show PyData.depthAll _ + 1 = 1
    rw [s.2]
  rw [e2]
  rfl
theorem eq_nil {S : Store} {zs : List Nat} (h : okc zs = true) : gEq (.d (.list (zs.map fun c => PyData.str (tx [c])))) (.d (.list [])) S = some (bt (decide (zs = [])), S) := by
  have e1 : gEqS (.d (.list (zs.map fun c => PyData.str (tx [c])))) (.d (.list [])) S = none := rfl
  unfold gEq
  rw [e1]
  unfold gEqD
  simp only [asD]
  rw [if_pos ⟨sh_txs h, sh_txs (zs := []) rfl⟩]
  cases zs with
  | nil => rfl
  | cons c zs => rfl
theorem okc_filter {xs : List Nat} {p : Nat → Bool} (h : okc xs = true) : okc (xs.filter p) = true := by
  unfold okc at h ⊢
  rw [List.all_eq_true] at h ⊢
  exact fun c m => h c (List.mem_filter.mp m).1
theorem k_spelt (n : Nat) {S : Store} {xs fs : List Nat} (hl : xs.length ≤ 1000) (ok : okc xs = true) : callN (n + 2) 19 [st xs, st fs] S = .ok (bt (spelt xs fs)) S := by
  show toR (b19 (callN (n + 1)) [some (st xs), some (st fs), none, none] S) = _
  have lo := len_ok (ρ := [some (st xs), some (st fs), none, none]) (S := S) (lo := fC (.int 1)) (hi := fC (.int 20)) hl rfl rfl rfl
  have ty : fNotT (fTru (f1 (gIsiA "str") (fVar 0))) [some (st xs), some (st fs), none, none] S = .ok false S := rfl
  have c2 : fNotT (fTest (fChain gLe gLe (fC (.int 1)) (fL gLen (fAc (fVar 0) fA0)) (fC (.int 20)))) [some (st xs), some (st fs), none, none] S = .ok (!(decide (1 ≤ xs.length) && decide (xs.length ≤ 20))) S := by
    unfold fNotT
    rw [lo]
    rfl
  unfold b19
  cases q : (decide (1 ≤ xs.length) && decide (xs.length ≤ 20)) with
  | false =>
    rw [q] at c2
    have e : spelt xs fs = false := by unfold spelt; rw [q]; rfl
    rw [e]
    refine ret_ok (ev_seqR ((ev_yes (S1 := S) ?_).trans (ev_ret rfl)))
    unfold fOrT
    rw [ty, R_ok, if_neg (by decide)]
    show (fNotT _ _ _).bind _ = _
    rw [c2]
    rfl
  | true =>
    rw [q] at c2
    cases xs with
    | nil => cases q
    | cons c r =>
      have e : spelt (c :: r) fs = (decide (c ∈ fs) && (c :: r).all fun c => decide (c ∈ sgn)) := by
        unfold spelt
        rw [q, Bool.true_and]
        congr 1
        simp
      rw [e]
      have ix : f2 gIx (fVar 0) (fC (.int 0)) [some (st (c :: r)), some (st fs), none, none] S = .ok (st [c]) S := ev_f2 (ev_var rfl) rfl (g_ix (a := c :: r) (i := 0) rfl (by show _ ≤ 16777216; omega))
      have c3 : fTest (f2 gNotInA (f2 gIx (fVar 0) (fC (.int 0))) (fVar 1)) [some (st (c :: r)), some (st fs), none, none] S = .ok (!decide (c ∈ fs)) S := ev_test (ev_f2 ix (ev_var rfl) g_nin)
      have cond : fOrT (fNotT (fTru (f1 (gIsiA "str") (fVar 0)))) (fOrT (fNotT (fTest (fChain gLe gLe (fC (.int 1)) (fL gLen (fAc (fVar 0) fA0)) (fC (.int 20))))) (fTest (f2 gNotInA (f2 gIx (fVar 0) (fC (.int 0))) (fVar 1)))) [some (st (c :: r)), some (st fs), none, none] S = .ok (!decide (c ∈ fs)) S := by
        unfold fOrT
        rw [ty, R_ok, if_neg (by decide)]
        show (fNotT _ _ _).bind _ = _
        rw [c2, R_ok]
        exact (if_neg (by decide)).trans c3
      by_cases h : c ∈ fs
      · rw [decide_eq_true h] at cond ⊢
        rw [Bool.true_and]
        refine ret_ok ((ev_seq ((ev_no cond).trans rfl)).trans ?_)
        have e16 : fCall 0 (callN (n + 1) 16) fA0 [some (st (c :: r)), some (st fs), none, none] S = .ok (st sml) S := fcall_at (ws := []) rfl (show callN (n + 1) 16 [] S = .ok (.d (.str (tx sml))) S from rfl) rfl rfl
        have e17 : fCall 0 (callN (n + 1) 17) fA0 [some (st (c :: r)), some (st fs), none, none] S = .ok (st grl) S := fcall_at (ws := []) rfl (show callN (n + 1) 17 [] S = .ok (.d (.str (tx grl))) S from rfl) rfl rfl
        have e18 : fCall 0 (callN (n + 1) 18) fA0 [some (st (c :: r)), some (st fs), none, none] S = .ok (st fig) S := fcall_at (ws := []) rfl (show callN (n + 1) 18 [] S = .ok (.d (.str (tx fig))) S from rfl) rfl rfl
        refine (ev_seq (ρ1 := [some (st (c :: r)), some (st fs), some (st sgn), none]) (S1 := S) (ev_asg (i := 2) (x := st sgn) (ev_f2 (ev_f2 (ev_f2 e16 e17 (g_cat (by decide))) e18 (g_cat (by decide))) (show fC (.str "_") _ S = .ok (st [95]) S from rfl) (g_cat (by decide))))).trans ?_
        have lc := flc_gen (g := gtName 3) (t := fTest (f2 gNotInA (fVar 3) (fVar 2))) (el := fVar 3) (vs := [3]) (ρ := [some (st (c :: r)), some (st fs), some (st sgn), none]) (S := S) (b := fun (w : W) => match w with | W.d (.str z) => !decide (z.cps.toList.headD 0 ∈ sgn) | _ => false) (f := fun (w : W) => match w with | W.d x => x | _ => PyData.none) (it_str (a := fVar 0) (xs := c :: r) (ev_var rfl)) (by rw [List.length_map]; omega) (fun _ _ => trivial) fun w m S' s => by
          obtain ⟨d, md, rfl⟩ := List.mem_map.mp m
          exact ⟨_, rfl, ev_test (ev_f2 (ev_var rfl) (ev_var rfl) g_nin), fun _ => ev_var rfl⟩
        have em : ((((c :: r).map fun c => st [c]).filter fun (w : W) => match w with | W.d (.str z) => !decide (z.cps.toList.headD 0 ∈ sgn) | _ => false).map fun (w : W) => match w with | W.d x => x | _ => PyData.none) = ((c :: r).filter fun c => !decide (c ∈ sgn)).map fun c => PyData.str (tx [c]) := by
          rw [List.filter_map, List.map_map]
          rfl
        rw [em] at lc
        rw [← all_nil]
        exact ev_ret (ev_f2 lc (ev_L (ws := []) rfl rfl) (eq_nil (okc_filter ok)))
      · rw [decide_eq_false h] at cond ⊢
        exact ret_ok (ev_seqR ((ev_yes cond).trans (ev_ret rfl)))
end Q0
end VI
set_option Elab.async false
set_option linter.all false
set_option maxRecDepth 100000
namespace VI
open PySem PySem.Spec PyProof.Rows L2
namespace Q0

def barD : List PyData := match k_BARRED with | .tuple xs => xs | _ => []
theorem k_bar : k_BARRED = .tuple barD := rfl
theorem flat_bar : barD.all flatD = true := by decide +kernel
def inBar (xs : List Nat) : Bool := barD.any fun d => PyData.eqv d (.str (tx xs))
def smallS (xs : List Nat) : Bool := spelt xs sml && !inBar xs
def greatS (xs : List Nat) : Bool := spelt xs grl
theorem flat_tx {xs : List Nat} (h : okc xs = true) : flatD (.str (tx xs)) = true := rfl
theorem nin_bar {xs : List Nat} {S : Store} {y : PyData} (h : okc xs = true) (hy : y = .tuple barD ∨ y = .list barD) : gNotInA (st xs) (.d y) S = some (bt (!inBar xs), S) := by
  have e1 : gNotInS (st xs) (.d y) S = none := by rcases hy with rfl | rfl <;> rfl
  have e2 : asSeq (.d y) S = some barD := by rcases hy with rfl | rfl <;> rfl
  unfold gNotInA
  rw [e1]
  unfold gIn
  simp only [e2]
  rw [if_pos ⟨flat_tx h, flat_bar⟩]
  rfl
theorem and_b {a c : FE} {ρ : Rho} {S : Store} {p q : Bool} (h1 : a ρ S = .ok (bt p) S) (h2 : c ρ S = .ok (bt q) S) : fAndV a c ρ S = .ok (bt (p && q)) S := by
  unfold fAndV
  rw [h1, R_ok]
  cases p
  · rfl
  · exact h2
theorem or_b {a c : FE} {ρ : Rho} {S : Store} {p q : Bool} (h1 : a ρ S = .ok (bt p) S) (h2 : c ρ S = .ok (bt q) S) : fOrV a c ρ S = .ok (bt (p || q)) S := by
  unfold fOrV
  rw [h1, R_ok]
  cases p
  · exact h2
  · rfl
theorem k_small (n : Nat) {S : Store} {xs : List Nat} (hl : xs.length ≤ 1000) (ok : okc xs = true) : callN (n + 2) 3 [st xs] S = .ok (bt (smallS xs)) S := by
  show toR (b3 (callN (n + 1)) [some (st xs)] S) = _
  unfold b3
  exact ret_ok (ev_ret (and_b (fcall_at (ws := [st xs, st sml]) (ev_ac (ev_var rfl) (ev_one rfl)) (k_begins n hl) rfl rfl) (ev_f2 (ev_var rfl) rfl (nin_bar ok (.inl k_bar)))))
theorem k_great (n : Nat) {S : Store} {xs : List Nat} (hl : xs.length ≤ 1000) : callN (n + 2) 4 [st xs] S = .ok (bt (greatS xs)) S := by
  show toR (b4 (callN (n + 1)) [some (st xs)] S) = _
  unfold b4
  exact ret_ok (ev_ret (fcall_at (ws := [st xs, st grl]) (ev_ac (ev_var rfl) (ev_one rfl)) (k_begins n hl) rfl rfl))
theorem k_barred (n : Nat) {S : Store} : callN (n + 1) 15 [] S = .ok (.d (.list barD)) S := by rfl
theorem k_lsmall (n : Nat) {S : Store} {xs : List Nat} (hl : xs.length ≤ 1000) (ok : okc xs = true) : callN (n + 3) 20 [st xs] S = .ok (bt (smallS xs)) S := by
  show toR (b20 (callN (n + 2)) [some (st xs)] S) = _
  have e16 : fCall 0 (callN (n + 2) 16) fA0 [some (st xs)] S = .ok (st sml) S := fcall_at (ws := []) rfl (show callN (n + 2) 16 [] S = .ok (.d (.str (tx sml))) S from rfl) rfl rfl
  have e15 : fCall 0 (callN (n + 2) 15) fA0 [some (st xs)] S = .ok (.d (.list barD)) S := fcall_at (ws := []) rfl (k_barred (n + 1)) rfl rfl
  unfold b20
  exact ret_ok (ev_ret (and_b (fcall_at (ws := [st xs, st sml]) (ev_ac (ev_var rfl) (ev_one e16)) (k_spelt n hl ok) rfl rfl) (ev_f2 (ev_var rfl) e15 (nin_bar ok (.inr rfl)))))
theorem k_lgreat (n : Nat) {S : Store} {xs : List Nat} (hl : xs.length ≤ 1000) (ok : okc xs = true) : callN (n + 3) 21 [st xs] S = .ok (bt (greatS xs)) S := by
  show toR (b21 (callN (n + 2)) [some (st xs)] S) = _
  have e17 : fCall 0 (callN (n + 2) 17) fA0 [some (st xs)] S = .ok (st grl) S := fcall_at (ws := []) rfl (show callN (n + 2) 17 [] S = .ok (.d (.str (tx grl))) S from rfl) rfl rfl
  unfold b21
  exact ret_ok (ev_ret (fcall_at (ws := [st xs, st grl]) (ev_ac (ev_var rfl) (ev_one e17)) (k_spelt n hl ok) rfl rfl))
end Q0
end VI
set_option Elab.async false
set_option linter.all false
set_option maxRecDepth 100000
namespace VI
open PySem PySem.Spec PyProof.Rows L2
namespace Q0

def sides (xs : List Nat) : List (List Nat) := (Txt.split (tx xs) (tx [46])).map fun z => z.cps.toList
theorem sides_join (xs : List Nat) : xs = TL.joinL [46] (sides xs) := by
  have h := split_closes (tx xs) 46
  rw [Bool.and_eq_true] at h
  have e := eq_of_beq h.1
  have t := TL.tl_join ⟨#[46]⟩ (Txt.split (tx xs) ⟨#[46]⟩)
  rw [e] at t
  exact t
theorem sides_ne (xs : List Nat) : sides xs ≠ [] := by
  have h := (fact_split (tx xs) (tx [46])).1
  intro e
  have : (Txt.split (tx xs) (tx [46])).length = 0 := by
    have := congrArg List.length e
    unfold sides at this
    rwa [List.length_map] at this
  omega
theorem join_mem {s : List Nat} : ∀ {ps : List (List Nat)} {p : List Nat} {c : Nat}, p ∈ ps → c ∈ p → c ∈ TL.joinL s ps
  | [], _, _, h, _ => by cases h
  | [q], p, c, h, hc => by
    rw [List.mem_singleton.mp h] at hc
    simpa [TL.joinL] using hc
  | q :: r :: ps, p, c, h, hc => by
    have ih := @join_mem s (r :: ps) p c
    rcases List.mem_cons.mp h with e | h
    · subst e
      simp [TL.joinL, hc]
    · have := ih h hc
      simp only [TL.joinL, List.mem_append] at this ⊢
      simp [this]
end Q0
end VI
set_option Elab.async false
set_option linter.all false
set_option maxRecDepth 100000
namespace VI
open PySem PySem.Spec PyProof.Rows L2
namespace Q0

theorem sides_okc {xs : List Nat} (h : okc xs = true) {p : List Nat} (m : p ∈ sides xs) : okc p = true := by
  unfold okc at h ⊢
  rw [List.all_eq_true] at h ⊢
  intro c hc
  refine h c ?_
  rw [sides_join xs]
  exact join_mem m hc
theorem sides_len {xs p : List Nat} (m : p ∈ sides xs) : p.length ≤ xs.length := by
  obtain ⟨z, mz, rfl⟩ := List.mem_map.mp m
  have := part_short mz
  rw [len_tx] at this
  exact this
theorem sides_one {xs p : List Nat} (h : sides xs = [p]) : p = xs := by
  have := sides_join xs
  rw [h] at this
  rw [this]
  simp [TL.joinL]
theorem sides_two {xs p q : List Nat} {r : List (List Nat)} (h : sides xs = p :: q :: r) : 46 ∈ xs := by
  rw [sides_join xs, h]
  simp [TL.joinL]
theorem not_spelt {xs fs : List Nat} (h : 46 ∈ xs) : spelt xs fs = false := by
  unfold spelt
  have : (xs.all fun c => decide (c ∈ sgn)) = false := by
    rw [List.all_eq_false]
    exact ⟨46, h, by decide⟩
  rw [this, Bool.and_false]
theorem sides_str (xs : List Nat) : (Txt.split (tx xs) (tx [46])).map PyData.str = (sides xs).map fun p => PyData.str (tx p) := by
  unfold sides
  rw [List.map_map]
  refine List.map_congr_left fun z _ => ?_
  rfl
theorem m_sp {xs : List Nat} {S : Store} (hl : xs.length ≤ 1000) : mSplit (st xs) [.d (.str ".")] S = some (.d (.list ((sides xs).map fun p => PyData.str (tx p))), S) := by
  show (if (tx [46]).length ≠ 0 ∧ (tx xs).length + 2 ≤ lim then some (W.d (.list ((Txt.split (tx xs) (tx [46])).map PyData.str)), S) else none) = _
  rw [if_pos ⟨by decide, by rw [len_tx]; show _ ≤ 16777216; omega⟩, sides_str]
def nameS (xs : List Nat) : Bool := match sides xs with
  | [p] => smallS xs
  | [p, q] => smallS q && greatS p
  | _ => false
def makerS (xs : List Nat) : Bool := decide ((sides xs).length ≤ 2) && (sides xs).all greatS
theorem small_pt {xs : List Nat} (h : 46 ∈ xs) : smallS xs = false := by unfold smallS; rw [not_spelt h]; rfl
theorem ev_sp {xs : List Nat} {ρ : Rho} {S : Store} (hl : xs.length ≤ 1000) (h0 : ρ[0]? = some (some (st xs))) : fMethS mSplit (fVar 0) (fAc (fC (.str ".")) fA0) ρ S = .ok (.d (.list ((sides xs).map fun p => PyData.str (tx p)))) S := by
  unfold fMethS
  rw [ev_var h0, R_ok]
  have ea : fAc (fC (.str ".")) fA0 ρ S = .ok [.d (.str ".")] S := rfl
  simp only [ea, R_ok, m_sp hl]
  rfl
theorem len_ss {xs : List Nat} {S : Store} : gLen [.d (.list ((sides xs).map fun p => PyData.str (tx p)))] S = some (nt (sides xs).length, S) := by
  show some (W.d (.int (((sides xs).map fun p => PyData.str (tx p)).length : Int)), S) = _
  rw [List.length_map]
theorem eq_n {i j : Nat} {S : Store} : gEq (nt i) (nt j) S = some (bt (decide (i = j)), S) := by
  rw [ev_eqI]
  congr 3
  simp only [Int.ofNat_inj]
theorem k_name (n : Nat) {S : Store} {xs : List Nat} (hl : xs.length ≤ 1000) (ok : okc xs = true) : callN (n + 3) 5 [st xs] S = .ok (bt (nameS xs)) S := by
  show toR (b5 (callN (n + 2)) [some (st xs), none] S) = _
  unfold b5
  refine ret_ok ((ev_seq (ρ1 := [some (st xs), none]) (S1 := S) ((ev_no (t := fNotT (fTru (f1 (gIsiA "str") (fVar 0)))) (S1 := S) rfl).trans rfl)).trans ?_)
  refine (ev_seq (ρ1 := [some (st xs), some (.d (.list ((sides xs).map fun p => PyData.str (tx p))))]) (S1 := S) (ev_asg (i := 1) (ev_sp hl rfl))).trans ?_
  generalize hρ : ([some (st xs), some (.d (.list ((sides xs).map fun p => PyData.str (tx p))))] : Rho) = ρ
  have v1 : fVar 1 ρ S = .ok (.d (.list ((sides xs).map fun p => PyData.str (tx p)))) S := by rw [← hρ]; exact ev_var rfl
  have ln : fL gLen (fAc (fVar 1) fA0) ρ S = .ok (nt (sides xs).length) S := ev_L (ev_one v1) len_ss
  have l1 : f2 gEq (fL gLen (fAc (fVar 1) fA0)) (fC (.int 1)) ρ S = .ok (bt (decide ((sides xs).length = 1))) S := ev_f2 ln (show fC (.int 1) ρ S = .ok (nt 1) S from rfl) eq_n
  have l2 : f2 gEq (fL gLen (fAc (fVar 1) fA0)) (fC (.int 2)) ρ S = .ok (bt (decide ((sides xs).length = 2))) S := ev_f2 ln (show fC (.int 2) ρ S = .ok (nt 2) S from rfl) eq_n
  have mem : ∀ p ∈ sides xs, p.length ≤ 1000 ∧ okc p = true := fun p m => ⟨Nat.le_trans (sides_len m) hl, sides_okc ok m⟩
  obtain ⟨ys, z, ez⟩ : ∃ ys z, sides xs = ys ++ [z] := by
    rcases List.eq_nil_or_concat (sides xs) with h | ⟨ys, z, h⟩
    · exact absurd h (sides_ne xs)
    · exact ⟨ys, z, by rw [h, List.concat_eq_append]⟩
  have mz := mem z (by rw [ez]; simp)
  have last : f2 gIx (fVar 1) (f1 gNeg (fC (.int 1))) ρ S = .ok (st z) S := by
    refine ev_f2 v1 (show f1 gNeg (fC (.int 1)) ρ S = .ok (.d (.int (-1))) S from rfl) ?_
    show ((atI ((sides xs).map fun p => PyData.str (tx p)) (-1)).map fun x => (W.d x, S)) = _
    have e : atI ((sides xs).map fun p => PyData.str (tx p)) (-1) = some (.str (tx z)) := by
      rw [ez, List.map_append]
      unfold atI ixN
      rw [if_neg (by decide), if_pos (by simp; omega)]
      simp
      have q : (-1 + ((ys.length : Int) + 1)).toNat = ys.length := by omega
      rw [q, List.getElem?_append_right (by simp)]
      simp
    rw [e]
    rfl
  have c3 : fCall 1 (callN (n + 2) 3) (fAc (f2 gIx (fVar 1) (f1 gNeg (fC (.int 1)))) fA0) ρ S = .ok (bt (smallS z)) S := fcall_at (ws := [st z]) (ev_one last) (k_small n mz.1 mz.2) rfl rfl
  obtain ⟨a, as, ea⟩ : ∃ a as, sides xs = a :: as := List.exists_cons_of_ne_nil (sides_ne xs)
  have ma := mem a (by rw [ea]; simp)
  have first : f2 gIx (fVar 1) (fC (.int 0)) ρ S = .ok (st a) S := by
    refine ev_f2 v1 rfl ?_
    rw [ea]
    show ((atI ((a :: as).map fun p => PyData.str (tx p)) 0).map fun x => (W.d x, S)) = _
    rw [atI_in (by omega) (by rw [List.map_cons, List.length_cons]; omega)]
    rfl
  have c4 : fCall 1 (callN (n + 2) 4) (fAc (f2 gIx (fVar 1) (fC (.int 0))) fA0) ρ S = .ok (bt (greatS a)) S := fcall_at (ws := [st a]) (ev_one first) (k_great n ma.1) rfl rfl
  have r := and_b c3 (or_b l1 (and_b l2 c4))
  have e : (smallS z && (decide ((sides xs).length = 1) || (decide ((sides xs).length = 2) && greatS a))) = nameS xs := by
    unfold nameS
    cases as with
    | nil =>
      rw [ea] at ez ⊢
      have : z = a := by
        have := List.append_inj_right' (s₁ := []) (t₁ := [a]) ez rfl
        simpa using this.symm
      rw [this, sides_one ea]
      simp
    | cons b bs =>
      cases bs with
      | nil =>
        rw [ea] at ez ⊢
        have : z = b := by
          have := List.append_inj_right' (s₁ := [a]) (t₁ := [b]) ez rfl
          simpa using this.symm
        rw [this]
        simp
      | cons d ds =>
        rw [ea]
        simp
  rw [e] at r
  exact ev_ret r
theorem k_lsides (n : Nat) {S : Store} {xs : List Nat} (hl : xs.length ≤ 1000) : callN (n + 1) 22 [st xs] S = .ok (tu ((sides xs).map fun p => PyData.str (tx p))) S := by
  show toR (b22 (callN n) [some (st xs)] S) = _
  unfold b22
  have e : fIfE (fTru (f1 (gIsiA "str") (fVar 0))) (fL gTupleA (fAc (fMethS mSplit (fVar 0) (fAc (fC (.str ".")) fA0)) fA0)) (fL gTup fA0) [some (st xs)] S = fL gTupleA (fAc (fMethS mSplit (fVar 0) (fAc (fC (.str ".")) fA0)) fA0) [some (st xs)] S := by
    have t : fTru (f1 (gIsiA "str") (fVar 0)) [some (st xs)] S = .ok true S := rfl
    unfold fIfE
    rw [t, R_ok, if_pos rfl]
  refine ret_ok (ev_ret (e.trans (ev_L (ev_one (ev_sp hl rfl)) rfl)))
theorem k_lname (n : Nat) {S : Store} {xs : List Nat} (hl : xs.length ≤ 1000) (ok : okc xs = true) : callN (n + 4) 23 [st xs] S = .ok (bt (nameS xs)) S := by
  show toR (b23 (callN (n + 3)) [some (st xs), none] S) = _
  unfold b23
  refine ret_ok ((ev_seq (ρ1 := [some (st xs), some (tu ((sides xs).map fun p => PyData.str (tx p)))]) (S1 := S) (ev_asg (i := 1) (fcall_at (ws := [st xs]) (ev_one (ev_var rfl)) (k_lsides (n + 2) hl) rfl rfl))).trans ?_)
  generalize hρ : ([some (st xs), some (tu ((sides xs).map fun p => PyData.str (tx p)))] : Rho) = ρ
  have v0 : fVar 0 ρ S = .ok (st xs) S := by rw [← hρ]; exact ev_var rfl
  have v1 : fVar 1 ρ S = .ok (tu ((sides xs).map fun p => PyData.str (tx p))) S := by rw [← hρ]; exact ev_var rfl
  have ls : gLen [tu ((sides xs).map fun p => PyData.str (tx p))] S = some (nt (sides xs).length, S) := by
    show some (W.d (.int (((sides xs).map fun p => PyData.str (tx p)).length : Int)), S) = _
    rw [List.length_map]
  have l2 : f2 gEq (fL gLen (fAc (fVar 1) fA0)) (fC (.int 2)) ρ S = .ok (bt (decide ((sides xs).length = 2))) S := ev_f2 (ev_L (ev_one v1) ls) (show fC (.int 2) ρ S = .ok (nt 2) S from rfl) eq_n
  have c20 : fCall 1 (callN (n + 3) 20) (fAc (fVar 0) fA0) ρ S = .ok (bt (smallS xs)) S := fcall_at (ws := [st xs]) (ev_one v0) (k_lsmall n hl ok) rfl rfl
  have mem : ∀ p ∈ sides xs, p.length ≤ 1000 ∧ okc p = true := fun p m => ⟨Nat.le_trans (sides_len m) hl, sides_okc ok m⟩
  have ixt : ∀ (i : Nat) (p : List Nat), (sides xs)[i]? = some p → gIx (tu ((sides xs).map fun p => PyData.str (tx p))) (.d (.int (i : Int))) S = some (st p, S) := fun i p h => by
    have hi := (List.getElem?_eq_some_iff.mp h).1
    show ((atI ((sides xs).map fun p => PyData.str (tx p)) (i : Int)).map fun x => (W.d x, S)) = _
    rw [atI_in (by omega) (by rw [List.length_map]; omega), Int.toNat_natCast, List.getElem?_map, h]
    rfl
  by_cases q : (sides xs).length = 2
  · obtain ⟨a, b, e⟩ : ∃ a b, sides xs = [a, b] := by
      match h : sides xs, q with
      | [a, b], _ => exact ⟨a, b, rfl⟩
    have ma := mem a (by rw [e]; simp)
    have mb := mem b (by rw [e]; simp)
    have c21 : fCall 1 (callN (n + 3) 21) (fAc (f2 gIx (fVar 1) (fC (.int 0))) fA0) ρ S = .ok (bt (greatS a)) S := fcall_at (ws := [st a]) (ev_one (ev_f2 v1 (show fC (.int 0) ρ S = .ok (.d (.int ((0 : Nat) : Int))) S from rfl) (ixt 0 a (by rw [e]; rfl)))) (k_lgreat n ma.1 ma.2) rfl rfl
    have c22 : fCall 1 (callN (n + 3) 20) (fAc (f2 gIx (fVar 1) (fC (.int 1))) fA0) ρ S = .ok (bt (smallS b)) S := fcall_at (ws := [st b]) (ev_one (ev_f2 v1 (show fC (.int 1) ρ S = .ok (.d (.int ((1 : Nat) : Int))) S from rfl) (ixt 1 b (by rw [e]; rfl)))) (k_lsmall n mb.1 mb.2) rfl rfl
    have r := or_b c20 (and_b l2 (and_b c21 c22))
    have ee : (smallS xs || (decide ((sides xs).length = 2) && (greatS a && smallS b))) = nameS xs := by
      unfold nameS
      rw [small_pt (sides_two e), e, Bool.and_comm (greatS a) (smallS b)]
      rfl
    rw [ee] at r
    exact ev_ret r
  · rw [decide_eq_false q] at l2
    have r2 : fAndV (f2 gEq (fL gLen (fAc (fVar 1) fA0)) (fC (.int 2))) (fAndV (fCall 1 (callN (n + 3) 21) (fAc (f2 gIx (fVar 1) (fC (.int 0))) fA0)) (fCall 1 (callN (n + 3) 20) (fAc (f2 gIx (fVar 1) (fC (.int 1))) fA0))) ρ S = .ok (bt false) S := by
      unfold fAndV
      rw [l2, R_ok]
    have r := or_b c20 r2
    have ee : (smallS xs || false) = nameS xs := by
      rw [Bool.or_false]
      unfold nameS
      match h : sides xs, q with
      | [], _ => exact absurd h (sides_ne xs)
      | [p], _ => rfl
      | [a, b], q => exact absurd rfl q
      | a :: b :: c :: r, _ => exact small_pt (sides_two h)
    rw [ee] at r
    exact ev_ret r
end Q0
end VI
set_option Elab.async false
set_option linter.all false
set_option maxRecDepth 100000
namespace VI
open PySem PySem.Spec PyProof.Rows L2
namespace Q0

theorem k_maker (n : Nat) {S : Store} {xs : List Nat} (hl : xs.length ≤ 1000) : callN (n + 3) 7 [st xs] S = .ok (bt (makerS xs)) S := by
  show toR (b7 (callN (n + 2)) [some (st xs), none, none] S) = _
  unfold b7
  refine ret_ok ((ev_seq (ρ1 := [some (st xs), none, none]) (S1 := S) ((ev_no (t := fNotT (fTru (f1 (gIsiA "str") (fVar 0)))) (S1 := S) rfl).trans rfl)).trans ?_)
  refine (ev_seq (ρ1 := [some (st xs), some (.d (.list ((sides xs).map fun p => PyData.str (tx p)))), none]) (S1 := S) (ev_asg (i := 1) (ev_sp hl rfl))).trans ?_
  have ln : fL gLen (fAc (fVar 1) fA0) [some (st xs), some (.d (.list ((sides xs).map fun p => PyData.str (tx p)))), none] S = .ok (nt (sides xs).length) S := ev_L (ev_one (ev_var rfl)) len_ss
  have l1 : f2 gLe (fL gLen (fAc (fVar 1) fA0)) (fC (.int 2)) [some (st xs), some (.d (.list ((sides xs).map fun p => PyData.str (tx p)))), none] S = .ok (bt (decide ((sides xs).length ≤ 2))) S := ev_f2 ln (show fC (.int 2) _ S = .ok (nt 2) S from rfl) g_le
  have mem : ∀ p ∈ sides xs, p.length ≤ 1000 := fun p m => Nat.le_trans (sides_len m) hl
  have hz : (sides xs).length < 1000000 := by
    have := (fact_split (tx xs) (tx [46])).2
    rw [len_tx] at this
    unfold sides
    rw [List.length_map]
    omega
  obtain ⟨ok, hok, hit⟩ := it_pure (a := fVar 1) (ρ := [some (st xs), some (.d (.list ((sides xs).map fun p => PyData.str (tx p)))), none]) (S := S) (xs := (sides xs).map fun p => PyData.str (tx p)) (ev_var rfl) (.inl rfl)
  have lc := flc_all (g := gtName 2) (el := fCall 1 (callN (n + 2) 4) (fAc (fVar 2) fA0)) (vs := [2]) (f := fun (w : W) => match w with | W.d (.str z) => PyData.bool (greatS z.cps.toList) | _ => PyData.none) hit (by rw [List.length_map, List.length_map]; exact hz) (fun S' _ => hok S') fun w m S' s => by
    obtain ⟨d, md, rfl⟩ := List.mem_map.mp m
    obtain ⟨p, mp, rfl⟩ := List.mem_map.mp md
    exact ⟨_, rfl, fcall_at (ws := [st p]) (ev_one (ev_var rfl)) (k_great n (mem p mp)) rfl rfl⟩
  have em : (((sides xs).map fun p => PyData.str (tx p)).map W.d).map (fun (w : W) => match w with | W.d (.str z) => PyData.bool (greatS z.cps.toList) | _ => PyData.none) = ((sides xs).map greatS).map PyData.bool := by
    rw [List.map_map, List.map_map, List.map_map]
    rfl
  rw [em] at lc
  have al : fL gAll (fAc (fLc (fItS (fVar 1)) (gtName 2) fYes (fCall 1 (callN (n + 2) 4) (fAc (fVar 2) fA0)) [2]) fA0) [some (st xs), some (.d (.list ((sides xs).map fun p => PyData.str (tx p)))), none] S = .ok (bt ((sides xs).all greatS)) S := by
    refine ev_L (ev_one lc) ?_
    have ea : asLst (W.d (.list (((sides xs).map greatS).map PyData.bool))) S = some (((sides xs).map greatS).map PyData.bool) := rfl
    unfold gAll
    simp only [ea, boolsD_map]
    congr 4
    rw [List.all_map]
    rfl
  exact ev_ret (and_b l1 al)
theorem all_none {α : Type} {xs : List α} {p : α → Bool} : decide ((xs.filter fun c => !p c) = []) = xs.all p := by
  rw [Bool.eq_iff_iff, decide_eq_true_eq, List.filter_eq_nil_iff, List.all_eq_true]
  constructor
  · intro h c m
    have := h c m
    simpa using this
  · intro h c m
    have := h c m
    simpa using this
theorem sm_ps : ∀ zs : List (List Nat), (∀ z ∈ zs, okc z = true) → smallDs (zs.map fun p => PyData.str (tx p)) = true ∧ PyData.depthAll (zs.map fun p => PyData.str (tx p)) = 0
  | [], _ => ⟨rfl, rfl⟩
  | c :: zs, h => by
    have ih := sm_ps zs fun z m => h z (List.mem_cons_of_mem _ m)
    refine ⟨?_, ?_⟩
    · show (smallD (.str (tx c)) && smallDs _) = true
      rw [ih.1, Bool.and_true]
      exact h c (by simp)
    · show max 0 (PyData.depthAll _) = 0
      rw [ih.2]
      rfl
theorem sh_ps {zs : List (List Nat)} (h : ∀ z ∈ zs, okc z = true) : SeqAt.shaped (.list (zs.map fun p => PyData.str (tx p))) = true := by
  have s := sm_ps zs h
  unfold SeqAt.shaped
  rw [small_lay (.list (zs.map fun p => PyData.str (tx p))) s.1, Bool.true_and]
  have e2 : PyData.depth (.list (zs.map fun p => PyData.str (tx p))) = 1 := by
    show PyData.depthAll _ + 1 = 1
    rw [s.2]
  rw [e2]
  rfl
theorem eq_nilP {S : Store} {zs : List (List Nat)} (h : ∀ z ∈ zs, okc z = true) : gEq (.d (.list (zs.map fun p => PyData.str (tx p)))) (.d (.list [])) S = some (bt (decide (zs = [])), S) := by
  have e1 : gEqS (.d (.list (zs.map fun p => PyData.str (tx p)))) (.d (.list [])) S = none := rfl
  unfold gEq
  rw [e1]
  unfold gEqD
  simp only [asD]
  rw [if_pos ⟨sh_ps h, sh_ps (zs := []) (fun _ m => by cases m)⟩]
  cases zs with
  | nil => rfl
  | cons c zs => rfl
theorem k_lmaker (n : Nat) {S : Store} {xs : List Nat} (hl : xs.length ≤ 1000) (ok : okc xs = true) : callN (n + 4) 24 [st xs] S = .ok (bt (makerS xs)) S := by
  show toR (b24 (callN (n + 3)) [some (st xs), none, none] S) = _
  unfold b24
  refine ret_ok ((ev_seq (ρ1 := [some (st xs), some (tu ((sides xs).map fun p => PyData.str (tx p))), none]) (S1 := S) (ev_asg (i := 1) (fcall_at (ws := [st xs]) (ev_one (ev_var rfl)) (k_lsides (n + 2) hl) rfl rfl))).trans ?_)
  have hz : (sides xs).length < 1000000 := by
    have := (fact_split (tx xs) (tx [46])).2
    rw [len_tx] at this
    unfold sides
    rw [List.length_map]
    omega
  have ls : gLen [tu ((sides xs).map fun p => PyData.str (tx p))] S = some (nt (sides xs).length, S) := by
    show some (W.d (.int (((sides xs).map fun p => PyData.str (tx p)).length : Int)), S) = _
    rw [List.length_map]
  have inn : gInA (nt (sides xs).length) (tu [.int 1, .int 2]) S = some (bt (decide ((sides xs).length = 1) || decide ((sides xs).length = 2)), S) := by
    show some (W.d (.bool ([PyData.int 1, .int 2].any fun d => PyData.eqv d (.int ((sides xs).length : Int)))), S) = _
    congr 4
    show (((1 : Int) == ((sides xs).length : Int)) || (((2 : Int) == ((sides xs).length : Int)) || false)) = _
    rw [Bool.or_false]
    have e1 : ((1 : Int) == ((sides xs).length : Int)) = decide ((sides xs).length = 1) := by
      rw [Bool.eq_iff_iff, beq_iff_eq, decide_eq_true_eq]; omega
    have e2 : ((2 : Int) == ((sides xs).length : Int)) = decide ((sides xs).length = 2) := by
      rw [Bool.eq_iff_iff, beq_iff_eq, decide_eq_true_eq]; omega
    rw [e1, e2]
  have l1 : f2 gInA (fL gLen (fAc (fVar 1) fA0)) (fL gTup (fAc (fC (.int 1)) (fAc (fC (.int 2)) fA0))) [some (st xs), some (tu ((sides xs).map fun p => PyData.str (tx p))), none] S = .ok (bt (decide ((sides xs).length = 1) || decide ((sides xs).length = 2))) S := ev_f2 (ev_L (ev_one (ev_var rfl)) ls) (ev_L (ws := [.d (.int 1), .d (.int 2)]) rfl rfl) inn
  have mem : ∀ p ∈ sides xs, p.length ≤ 1000 ∧ okc p = true := fun p m => ⟨Nat.le_trans (sides_len m) hl, sides_okc ok m⟩
  obtain ⟨okk, hok, hit⟩ := it_pure (a := fVar 1) (ρ := [some (st xs), some (tu ((sides xs).map fun p => PyData.str (tx p))), none]) (S := S) (xs := (sides xs).map fun p => PyData.str (tx p)) (ev_var rfl) (.inr rfl)
  have lc := flc_gen (g := gtName 2) (t := fNotT (fTru (fCall 1 (callN (n + 3) 21) (fAc (fVar 2) fA0)))) (el := fVar 2) (vs := [2]) (b := fun (w : W) => match w with | W.d (.str z) => !greatS z.cps.toList | _ => false) (f := fun (w : W) => match w with | W.d x => x | _ => PyData.none) hit (by rw [List.length_map, List.length_map]; exact hz) (fun S' _ => hok S') fun w m S' s => by
    obtain ⟨d, md, rfl⟩ := List.mem_map.mp m
    obtain ⟨p, mp, rfl⟩ := List.mem_map.mp md
    have c21 : fCall 1 (callN (n + 3) 21) (fAc (fVar 2) fA0) [some (st xs), some (tu ((sides xs).map fun p => PyData.str (tx p))), some (st p)] S' = .ok (bt (greatS p)) S' := fcall_at (ws := [st p]) (ev_one (ev_var rfl)) (k_lgreat n (mem p mp).1 (mem p mp).2) rfl rfl
    refine ⟨_, rfl, ?_, fun _ => ev_var rfl⟩
    unfold fNotT fTru
    show ((fCall 1 (callN (n + 3) 21) (fAc (fVar 2) fA0) [some (st xs), some (tu ((sides xs).map fun p => PyData.str (tx p))), some (st p)] S').bind truR).bind _ = _
    rw [c21]
    rfl
  have em : ((((sides xs).map fun p => PyData.str (tx p)).map W.d).filter fun (w : W) => match w with | W.d (.str z) => !greatS z.cps.toList | _ => false).map (fun (w : W) => match w with | W.d x => x | _ => PyData.none) = ((sides xs).filter fun p => !greatS p).map fun p => PyData.str (tx p) := by
    rw [List.map_map, List.filter_map, List.map_map]
    rfl
  rw [em] at lc
  have e2 := ev_f2 (g := gEq) lc (show fL gLst fA0 _ S = .ok (.d (.list [])) S from rfl) (eq_nilP fun z m => (mem z (List.mem_filter.mp m).1).2)
  rw [all_none] at e2
  have r := and_b l1 e2
  have ee : ((decide ((sides xs).length = 1) || decide ((sides xs).length = 2)) && (sides xs).all greatS) = makerS xs := by
    unfold makerS
    congr 1
    have : (sides xs).length ≠ 0 := fun e => sides_ne xs (List.length_eq_zero_iff.mp e)
    rw [Bool.eq_iff_iff, Bool.or_eq_true, decide_eq_true_eq, decide_eq_true_eq, decide_eq_true_eq]
    omega
  rw [ee] at r
  exact ev_ret r
end Q0
end VI
set_option Elab.async false
set_option linter.all false
set_option maxRecDepth 100000
namespace VI
open PySem PySem.Spec PyProof.Rows L2
namespace Q0

theorem k_alike (n : Nat) {w u : W} {d : PyData} {S : Store} (hw : asD w S = some d) (hu : asD u S = some d) (h : Fine d) : callN (n + 1) 12 [w, u] S = .ok (bt true) S := alikeA_run hw hu h
theorem and_f {a c : FE} {ρ : Rho} {S S1 : Store} (h1 : a ρ S = .ok (bt false) S1) : fAndV a c ρ S = .ok (bt false) S1 := by
  unfold fAndV
  rw [h1, R_ok]
theorem bools_sm : ∀ bs : List Bool, Sms 0 bs.length (bs.map PyData.bool)
  | [] => Sms.nil
  | b :: bs => (Sms.cons (b1 := 0) (Sm.bool (k := 0) (b := 0)) (bools_sm bs)).mono (Nat.le_refl _) (by rw [List.length_cons]; omega)
theorem bools_fine {bs : List Bool} (h : bs.length ≤ 100) : Fine (.list (bs.map PyData.bool)) := (Sm.list (bools_sm bs)).fine (by decide) (by omega)
/-- whatever a thing is: seven truths of the program, the same of the law -/
theorem named_of (n : Nat) {S : Store} {w : W} {i m s g nm mk : Bool} (h0 : callN (n + 1) 0 [w] S = .ok (bt i) S) (h1 : callN (n + 1) 1 [w] S = .ok (bt m) S) (h3 : callN (n + 1) 3 [w] S = .ok (bt s) S) (h4 : callN (n + 1) 4 [w] S = .ok (bt g) S) (h5 : callN (n + 1) 5 [w] S = .ok (bt nm) S)
    (h13 : callN (n + 1) 13 [w] S = .ok (bt i) S) (h25 : callN (n + 1) 25 [w] S = .ok (bt m) S) (h20 : callN (n + 1) 20 [w] S = .ok (bt s) S) (h21 : callN (n + 1) 21 [w] S = .ok (bt g) S) (h23 : callN (n + 1) 23 [w] S = .ok (bt nm) S) (h6 : callN (n + 1) 6 [w] S = .ok (bt s) S) (h7 : callN (n + 1) 7 [w] S = .ok (bt mk) S) (h24 : callN (n + 1) 24 [w] S = .ok (bt mk) S) :
    callN (n + 2) 31 [w] S = .ok (bt true) S := by
  show toR (b31 (callN (n + 1)) [some w, none, none, none] S) = _
  have c : ∀ {k : Nat} {b : Bool} {ρ : Rho}, callN (n + 1) k [w] S = .ok (bt b) S → ρ[0]? = some (some w) → fCall 1 (callN (n + 1) k) (fAc (fVar 0) fA0) ρ S = .ok (bt b) S := fun {k b ρ} h hv => fcall_at (ws := [w]) (ev_one (ev_var hv)) h rfl rfl
  unfold b31
  refine ret_ok ((ev_seq (ρ1 := [some w, some (.d (.list [.bool i, .bool m, .bool s, .bool g, .bool nm])), none, none]) (S1 := S) (ev_asg (i := 1) (ev_L (ws := [bt i, bt m, bt s, bt g, bt nm]) (ev_ac (c h0 rfl) (ev_ac (c h1 rfl) (ev_ac (c h3 rfl) (ev_ac (c h4 rfl) (ev_one (c h5 rfl)))))) rfl))).trans ?_)
  refine (ev_seq (ρ1 := [some w, some (.d (.list [.bool i, .bool m, .bool s, .bool g, .bool nm])), some (.d (.list [.bool i, .bool m, .bool s, .bool g, .bool nm])), none]) (S1 := S) (ev_asg (i := 2) (ev_L (ws := [bt i, bt m, bt s, bt g, bt nm]) (ev_ac (c h13 rfl) (ev_ac (c h25 rfl) (ev_ac (c h20 rfl) (ev_ac (c h21 rfl) (ev_one (c h23 rfl)))))) rfl))).trans ?_
  refine (ev_seq (ρ1 := [some w, some (.d (.list [.bool i, .bool m, .bool s, .bool g, .bool nm])), some (.d (.list [.bool i, .bool m, .bool s, .bool g, .bool nm])), some (.d (.list [.bool s, .bool mk]))]) (S1 := S) (ev_asg (i := 3) (ev_L (ws := [bt s, bt mk]) (ev_ac (c h6 rfl) (ev_one (c h7 rfl))) rfl))).trans ?_
  have cat : gAdd (.d (.list [.bool i, .bool m, .bool s, .bool g, .bool nm])) (.d (.list [.bool s, .bool mk])) S = some (.d (.list ([i, m, s, g, nm, s, mk].map PyData.bool)), S) := rfl
  refine ev_ret (fcall_at (ws := [_, _]) (ev_ac (ev_f2 (ev_var rfl) (ev_var rfl) cat) (ev_one (ev_f2 (ev_var rfl) (ev_L (ws := [bt s, bt mk]) (ev_ac (c h20 rfl) (ev_one (c h24 rfl))) rfl) cat))) (k_alike n (by rw [asD]) (by rw [asD]) (bools_fine (bs := [i, m, s, g, nm, s, mk]) (show 7 ≤ 100 by decide))) rfl rfl)
theorem k_named (n : Nat) {S : Store} {xs : List Nat} (hl : xs.length ≤ 1000) (ok : okc xs = true) : callN (n + 5) 31 [st xs] S = .ok (bt true) S :=
  named_of (n + 3) (i := false) (m := false) (s := smallS xs) (g := greatS xs) (nm := nameS xs) (mk := makerS xs) rfl (by
    show toR (b1 (callN (n + 3)) [some (st xs)] S) = _
    unfold b1
    exact ret_ok (ev_ret (and_f (fcall_at (ws := [st xs]) (ev_one (ev_var rfl)) (show callN (n + 3) 0 [st xs] S = .ok (bt false) S from rfl) rfl rfl)))) (k_small (n + 2) hl ok) (k_great (n + 2) hl) (k_name (n + 1) hl ok) rfl (by
    show toR (b25 (callN (n + 3)) [some (st xs)] S) = _
    unfold b25
    exact ret_ok (ev_ret (and_f (fcall_at (ws := [st xs]) (ev_one (ev_var rfl)) (show callN (n + 3) 13 [st xs] S = .ok (bt false) S from rfl) rfl rfl)))) (k_lsmall (n + 1) hl ok) (k_lgreat (n + 1) hl ok) (k_lname n hl ok) (by
    show toR (b6 (callN (n + 3)) [some (st xs)] S) = _
    unfold b6
    exact ret_ok (ev_ret (fcall_at (ws := [st xs]) (ev_one (ev_var rfl)) (k_small (n + 1) hl ok) rfl rfl))) (k_maker (n + 1) hl) (k_lmaker n hl ok)
end Q0
end VI
set_option Elab.async false
set_option linter.all false
set_option maxRecDepth 100000
namespace VI
open PySem PySem.Spec PyProof.Rows L2
namespace Q0

section
variable {w : W} (hs : ∀ S, gIsiA "str" w S = some (bt false, S)) {S : Store}
include hs
theorem tn {ρ : Rho} (h : ρ[0]? = some (some w)) : fNotT (fTru (f1 (gIsiA "str") (fVar 0))) ρ S = .ok true S := by
  have e : f1 (gIsiA "str") (fVar 0) ρ S = .ok (bt false) S := ev_f1 (ev_var h) (hs S)
  unfold fNotT fTru
  rw [e]
  rfl
theorem o2 (n : Nat) {u : W} : callN (n + 1) 2 [w, u] S = .ok (bt false) S := by
  show toR (b2 (callN n) [some w, some u, none] S) = _
  unfold b2
  refine ret_ok (ev_seqR ((ev_yes (S1 := S) ?_).trans (ev_ret rfl)))
  unfold fOrT
  rw [tn hs rfl]
  rfl
theorem o3 (n : Nat) : callN (n + 2) 3 [w] S = .ok (bt false) S := by
  show toR (b3 (callN (n + 1)) [some w] S) = _
  unfold b3
  exact ret_ok (ev_ret (and_f (fcall_at (ws := [w, .d k_SMALL_LETTERS]) (ev_ac (ev_var rfl) (ev_one rfl)) (o2 hs n) rfl rfl)))
theorem o4 (n : Nat) : callN (n + 2) 4 [w] S = .ok (bt false) S := by
  show toR (b4 (callN (n + 1)) [some w] S) = _
  unfold b4
  exact ret_ok (ev_ret (fcall_at (ws := [w, .d k_GREAT_LETTERS]) (ev_ac (ev_var rfl) (ev_one rfl)) (o2 hs n) rfl rfl))
theorem o5 (n : Nat) : callN (n + 1) 5 [w] S = .ok (bt false) S := by
  show toR (b5 (callN n) [some w, none] S) = _
  unfold b5
  exact ret_ok (ev_seqR ((ev_yes (tn hs rfl)).trans (ev_ret rfl)))
theorem o6 (n : Nat) : callN (n + 3) 6 [w] S = .ok (bt false) S := by
  show toR (b6 (callN (n + 2)) [some w] S) = _
  unfold b6
  exact ret_ok (ev_ret (fcall_at (ws := [w]) (ev_one (ev_var rfl)) (o3 hs n) rfl rfl))
theorem o7 (n : Nat) : callN (n + 1) 7 [w] S = .ok (bt false) S := by
  show toR (b7 (callN n) [some w, none, none] S) = _
  unfold b7
  exact ret_ok (ev_seqR ((ev_yes (tn hs rfl)).trans (ev_ret rfl)))
theorem o19 (n : Nat) {u : W} : callN (n + 1) 19 [w, u] S = .ok (bt false) S := by
  show toR (b19 (callN n) [some w, some u, none, none] S) = _
  unfold b19
  refine ret_ok (ev_seqR ((ev_yes (S1 := S) ?_).trans (ev_ret rfl)))
  unfold fOrT
  rw [tn hs rfl]
  rfl
theorem o20 (n : Nat) : callN (n + 2) 20 [w] S = .ok (bt false) S := by
  show toR (b20 (callN (n + 1)) [some w] S) = _
  have e16 : fCall 0 (callN (n + 1) 16) fA0 [some w] S = .ok (st sml) S := fcall_at (ws := []) rfl (show callN (n + 1) 16 [] S = .ok (.d (.str (tx sml))) S from rfl) rfl rfl
  unfold b20
  exact ret_ok (ev_ret (and_f (fcall_at (ws := [w, st sml]) (ev_ac (ev_var rfl) (ev_one e16)) (o19 hs n) rfl rfl)))
theorem o21 (n : Nat) : callN (n + 2) 21 [w] S = .ok (bt false) S := by
  show toR (b21 (callN (n + 1)) [some w] S) = _
  have e17 : fCall 0 (callN (n + 1) 17) fA0 [some w] S = .ok (st grl) S := fcall_at (ws := []) rfl (show callN (n + 1) 17 [] S = .ok (.d (.str (tx grl))) S from rfl) rfl rfl
  unfold b21
  exact ret_ok (ev_ret (fcall_at (ws := [w, st grl]) (ev_ac (ev_var rfl) (ev_one e17)) (o19 hs n) rfl rfl))
theorem o22 (n : Nat) : callN (n + 1) 22 [w] S = .ok (tu []) S := by
  show toR (b22 (callN n) [some w] S) = _
  unfold b22
  have t : fTru (f1 (gIsiA "str") (fVar 0)) [some w] S = .ok false S := by
    have e : f1 (gIsiA "str") (fVar 0) [some w] S = .ok (bt false) S := ev_f1 (ev_var rfl) (hs S)
    unfold fTru
    rw [e]
    rfl
  refine ret_ok (ev_ret ?_)
  unfold fIfE
  rw [t, R_ok, if_neg (by decide)]
  rfl
theorem o23 (n : Nat) : callN (n + 3) 23 [w] S = .ok (bt false) S := by
  show toR (b23 (callN (n + 2)) [some w, none] S) = _
  unfold b23
  refine ret_ok ((ev_seq (ρ1 := [some w, some (tu [])]) (S1 := S) (ev_asg (i := 1) (fcall_at (ws := [w]) (ev_one (ev_var rfl)) (o22 hs (n + 1)) rfl rfl))).trans ?_)
  have c20 : fCall 1 (callN (n + 2) 20) (fAc (fVar 0) fA0) [some w, some (tu [])] S = .ok (bt false) S := fcall_at (ws := [w]) (ev_one (ev_var rfl)) (o20 hs n) rfl rfl
  exact ev_ret (or_b c20 (and_f rfl))
theorem o24 (n : Nat) : callN (n + 2) 24 [w] S = .ok (bt false) S := by
  show toR (b24 (callN (n + 1)) [some w, none, none] S) = _
  unfold b24
  refine ret_ok ((ev_seq (ρ1 := [some w, some (tu []), none]) (S1 := S) (ev_asg (i := 1) (fcall_at (ws := [w]) (ev_one (ev_var rfl)) (o22 hs n) rfl rfl))).trans ?_)
  exact ev_ret (and_f rfl)
/-- a thing that is no text -/
theorem named_no (n : Nat) {i m : Bool} (h0 : callN (n + 4) 0 [w] S = .ok (bt i) S) (h1 : callN (n + 4) 1 [w] S = .ok (bt m) S) (h13 : callN (n + 4) 13 [w] S = .ok (bt i) S) (h25 : callN (n + 4) 25 [w] S = .ok (bt m) S) : callN (n + 5) 31 [w] S = .ok (bt true) S :=
  named_of (n + 3) (i := i) (m := m) (s := false) (g := false) (nm := false) (mk := false) h0 h1 (o3 hs (n + 2)) (o4 hs (n + 2)) (o5 hs (n + 3)) h13 h25 (o20 hs (n + 2)) (o21 hs (n + 2)) (o23 hs (n + 1)) (o6 hs (n + 1)) (o7 hs (n + 3)) (o24 hs (n + 2))
end
theorem named_int (n : Nat) {S : Store} {i : Int} : callN (n + 5) 31 [.d (.int i)] S = .ok (bt true) S := by
  have c0 : ∀ k, callN (k + 1) 0 [.d (.int i)] S = .ok (bt true) S := fun _ => rfl
  have c13 : ∀ k, callN (k + 1) 13 [.d (.int i)] S = .ok (bt true) S := fun _ => rfl
  have ch : ∀ {lo hi : FE} {ρ : Rho}, ρ[0]? = some (some (.d (.int i))) → lo ρ S = .ok (.d (.int (-2147483648))) S → hi ρ S = .ok (.d (.int 2147483647)) S → fChain gLe gLe lo (fVar 0) hi ρ S = .ok (bt (decide (-2147483648 ≤ i) && decide (i ≤ 2147483647))) S := fun {lo hi ρ} hv h1 h2 => by
    have l1 : gLe (.d (.int (-2147483648))) (.d (.int i)) S = some (bt (decide (-2147483648 ≤ i)), S) := rfl
    have l2 : gLe (.d (.int i)) (.d (.int 2147483647)) S = some (bt (decide (i ≤ 2147483647)), S) := rfl
    unfold fChain
    rw [h1, R_ok, ev_var hv, R_ok, l1]
    show (match bt (decide (-2147483648 ≤ i)) with
      | .d (.bool true) => (hi ρ S).bind fun z S4 => lift (gLe (.d (.int i)) z S4)
      | .d (.bool false) => .ok (.d (.bool false)) S
      | _ => .bad) = _
    by_cases h : -2147483648 ≤ i
    · rw [decide_eq_true h]
      show ((hi ρ S).bind fun z S4 => lift (gLe (.d (.int i)) z S4)) = _
      rw [h2, R_ok, l2]
      rfl
    · rw [decide_eq_false h]
      rfl
  refine named_no (fun _ => rfl) n (c0 (n + 3)) ?_ (c13 (n + 3)) ?_ (m := decide (-2147483648 ≤ i) && decide (i ≤ 2147483647))
  · show toR (b1 (callN (n + 3)) [some (.d (.int i))] S) = _
    unfold b1
    exact ret_ok (ev_ret (and_b (p := true) (fcall_at (ws := [.d (.int i)]) (ev_one (ev_var rfl)) (c0 (n + 2)) rfl rfl) (ch rfl rfl rfl)))
  · show toR (b25 (callN (n + 3)) [some (.d (.int i))] S) = _
    unfold b25
    exact ret_ok (ev_ret (and_b (p := true) (fcall_at (ws := [.d (.int i)]) (ev_one (ev_var rfl)) (c13 (n + 2)) rfl rfl) (ch rfl rfl rfl)))
end Q0
end VI
set_option Elab.async false
set_option linter.all false
set_option maxRecDepth 100000
namespace VI
open PySem PySem.Spec PyProof.Rows L2
namespace Q0

def wrp (i : Int) : Int := (i + 2147483648) % 4294967296 - 2147483648
theorem md (i : Int) (S : Store) : gMod (.d (.int i)) (.d (.int 4294967296)) S = some (.d (.int (i % 4294967296)), S) := by
  show (if decide ((0 : Int) < 4294967296) = true then some (W.d (.int (i % 4294967296)), S) else none) = _
  rw [if_pos (by decide)]
theorem k_wrapped (n : Nat) {S : Store} {i : Int} : callN (n + 1) 8 [.d (.int i)] S = .ok (.d (.int (wrp i))) S := by
  show toR (b8 (callN n) [some (.d (.int i))] S) = _
  unfold b8
  have e : i - -2147483648 = i + 2147483648 := by omega
  have e2 : (i + 2147483648) % 4294967296 + -2147483648 = wrp i := by unfold wrp; omega
  refine ret_ok (ev_ret (ev_f2 (ev_f2 (ev_f2 (ev_var rfl) rfl (show gSub (.d (.int i)) (.d (.int (-2147483648))) S = some (.d (.int (i - -2147483648)), S) from rfl)) rfl (md _ S)) rfl ?_))
  show some (W.d (.int ((i - -2147483648) % 4294967296 + -2147483648)), S) = _
  rw [e, e2]
theorem k_lwrapped (n : Nat) {S : Store} {i : Int} : callN (n + 1) 14 [.d (.int i)] S = .ok (.d (.int (wrp i))) S := by
  show toR (b14 (callN n) [some (.d (.int i))] S) = _
  unfold b14
  have gi : gIntA [.d (.int (i + 2147483648))] S = some (.d (.int (i + 2147483648)), S) := rfl
  exact ret_ok (ev_ret (ev_f2 (ev_f2 (ev_L (ws := [.d (.int (i + 2147483648))]) (ev_one (ev_f2 (ev_var rfl) rfl rfl)) gi) rfl (md _ S)) rfl rfl))
theorem wrp_fine (i : Int) : Fine (.int (wrp i)) := (Sm.int (k := 0) (b := 0) (by unfold wrp; omega)).fine (by decide) (by decide)
end Q0
end VI
set_option Elab.async false
set_option linter.all false
set_option maxRecDepth 100000
namespace VI
open PySem PySem.Spec PyProof.Rows L2
namespace Q0

theorem named_else (n : Nat) {S : Store} {w : W} (hs : ∀ S, gIsiA "str" w S = some (bt false, S)) (c0 : ∀ k, callN (k + 1) 0 [w] S = .ok (bt false) S) (c13 : ∀ k, callN (k + 1) 13 [w] S = .ok (bt false) S) : callN (n + 5) 31 [w] S = .ok (bt true) S := by
  refine named_no hs n (i := false) (m := false) (c0 (n + 3)) ?_ (c13 (n + 3)) ?_
  · show toR (b1 (callN (n + 3)) [some w] S) = _
    unfold b1
    exact ret_ok (ev_ret (and_f (fcall_at (ws := [w]) (ev_one (ev_var rfl)) (c0 (n + 2)) rfl rfl)))
  · show toR (b25 (callN (n + 3)) [some w] S) = _
    unfold b25
    exact ret_ok (ev_ret (and_f (fcall_at (ws := [w]) (ev_one (ev_var rfl)) (c13 (n + 2)) rfl rfl)))
theorem named_none (n : Nat) {S : Store} : callN (n + 5) 31 [.d .none] S = .ok (bt true) S := named_else n (fun _ => rfl) (fun _ => rfl) (fun _ => rfl)
theorem named_bool (n : Nat) {S : Store} {b : Bool} : callN (n + 5) 31 [.d (.bool b)] S = .ok (bt true) S := named_else n (fun _ => rfl) (fun _ => rfl) (fun _ => rfl)
theorem named_tup (n : Nat) {S : Store} {xs : List PyData} : callN (n + 5) 31 [.d (.tuple xs)] S = .ok (bt true) S := named_else n (fun _ => rfl) (fun _ => rfl) (fun _ => rfl)
theorem named_list (n : Nat) {S : Store} {xs : List PyData} : callN (n + 5) 31 [.d (.list xs)] S = .ok (bt true) S := named_else n (fun _ => rfl) (fun _ => rfl) (fun _ => rfl)
theorem named_dict (n : Nat) {S : Store} {v : PyData} {ps : List (PyData × PyData)} : callN (n + 5) 31 [.d (.dict ((.bool true, v) :: ps))] S = .ok (bt true) S := named_else n (fun _ => rfl) (fun _ => rfl) (fun _ => rfl)
theorem named_err (n : Nat) {S : Store} {ps : List (PyData × PyData)} : callN (n + 5) 31 [.d (.dict ((.none, .none) :: ps))] S = .ok (bt true) S := named_else n (fun _ => rfl) (fun _ => rfl) (fun _ => rfl)
end Q0
end VI
set_option Elab.async false
set_option linter.all false
set_option maxRecDepth 100000
namespace VI
open PySem PySem.Spec PyProof.Rows L2
namespace Q0

theorem T10 (n : Nat) : Taker (callN (n + 1) 10) := fun S l b m h1 h2 h3 h4 => taker S l b m h1 h2 h3 h4
theorem k_take (n : Nat) {S : Store} {l N : Nat} {m : Int} (hb : BG S l N) (hN : N < 2 ^ 59) (hm : 0 < m ∧ m < 1073741824) :
    ∃ v S', callN (n + 1) 10 [.loc l, .d (.int m)] S = .ok (.d (.int v)) S' ∧ (0 ≤ v ∧ v < m) ∧ S'.length = S.length ∧ BG S' l (N + 1) ∧ ∀ j, j ≠ l → S'[j]? = S[j]? := take_bg (T10 n) hb hN hm
theorem k_some (n : Nat) {S : Store} {l N : Nat} {ds : List PyData} (hb : BG S l N) (hN : N < 2 ^ 59) (hd : 0 < ds.length ∧ ds.length < 1073741824) :
    ∃ x S', x ∈ ds ∧ callN (n + 2) 11 [.loc l, .d (.list ds)] S = .ok (.d x) S' ∧ S'.length = S.length ∧ BG S' l (N + 1) ∧ ∀ j, j ≠ l → S'[j]? = S[j]? := some_bg (T10 n) hb hN hd
def ones : List PyData := [.str "x", .str "aB_1", .str "M", .str "List", .str "get", .str "kind", .str "num", .str "A1", .str "aaaaaaaaaaaaaaaaaaa", .str "ZZZZZZZZZZZZZZZZZZZZ", .str "endOf", .str "true"]
def twos : List PyData := [.str "map", .str "Cons", .str "rec", .str "x", .str "X", .str "", .str "_", .str "1"]
/-- a short text -/
structure Sh (x : PyData) : Prop where
  ex : ∃ xs : List Nat, x = .str (tx xs) ∧ okc xs = true ∧ xs.length ≤ 200
def oneB (x : PyData) : Bool := match x with
  | .str z => okc z.cps.toList && decide (z.cps.toList.length ≤ 20) && okc (Txt.upper z).cps.toList && decide ((Txt.upper z).cps.toList.length ≤ 20) && okc (Txt.lower z).cps.toList && decide ((Txt.lower z).cps.toList.length ≤ 20)
  | _ => false
theorem ones_ok : ones.all oneB = true := by decide +kernel
def twoB (x : PyData) : Bool := match x with
  | .str z => okc z.cps.toList && decide (z.cps.toList.length ≤ 20)
  | _ => false
theorem twos_ok : twos.all twoB = true := by decide +kernel
theorem one_at {x : PyData} (h : x ∈ ones) : ∃ a u l : List Nat, x = .str (tx a) ∧ (okc a = true ∧ a.length ≤ 20) ∧ (∀ S, mUpper (st a) [] S = some (st u, S)) ∧ (okc u = true ∧ u.length ≤ 20) ∧ (∀ S, mLower (st a) [] S = some (st l, S)) ∧ (okc l = true ∧ l.length ≤ 20) := by
  have q := List.all_eq_true.mp ones_ok x h
  cases x with
  | str z =>
    have q2 : (okc z.cps.toList && decide (z.cps.toList.length ≤ 20) && okc (Txt.upper z).cps.toList && decide ((Txt.upper z).cps.toList.length ≤ 20) && okc (Txt.lower z).cps.toList && decide ((Txt.lower z).cps.toList.length ≤ 20)) = true := q
    simp only [Bool.and_eq_true, decide_eq_true_eq] at q2
    have zl : z.length ≤ 5592405 := by
      have : z.length = z.cps.toList.length := by simp [Str.length]
      omega
    refine ⟨z.cps.toList, (Txt.upper z).cps.toList, (Txt.lower z).cps.toList, rfl, ⟨q2.1.1.1.1.1, q2.1.1.1.1.2⟩, fun S => ?_, ⟨q2.1.1.1.2, q2.1.1.2⟩, fun S => ?_, ⟨q2.1.2, q2.2⟩⟩
    · show (if z.length ≤ 5592405 then some (W.d (.str (Txt.upper z)), S) else none) = _
      rw [if_pos zl]
    · show (if z.length ≤ 5592405 then some (W.d (.str (Txt.lower z)), S) else none) = _
      rw [if_pos zl]
  | _ => cases q
theorem two_at {x : PyData} (h : x ∈ twos) : ∃ a : List Nat, x = .str (tx a) ∧ (okc a = true ∧ a.length ≤ 20) := by
  have q := List.all_eq_true.mp twos_ok x h
  cases x with
  | str z =>
    have q2 : (okc z.cps.toList && decide (z.cps.toList.length ≤ 20)) = true := q
    simp only [Bool.and_eq_true, decide_eq_true_eq] at q2
    exact ⟨z.cps.toList, rfl, q2⟩
  | _ => cases q
end Q0
end VI
set_option Elab.async false
set_option linter.all false
set_option maxRecDepth 100000
namespace VI
open PySem PySem.Spec PyProof.Rows L2
namespace Q0

def n1 (a b : List Nat) : List (List Nat) := [a, a ++ [46] ++ b, a ++ b, b ++ a, a ++ [46], [46] ++ a, a ++ [120], a ++ [46] ++ b ++ [46, 120]]
def n3 (a u l : List Nat) : List (List Nat) := [a ++ [32], a ++ a, [95] ++ a, [49] ++ a, u, l, a ++ [45], [63] ++ a]
def tq (ps : List (List Nat)) : List PyData := ps.map fun p => .str (tx p)
theorem okc_app {a b : List Nat} (h1 : okc a = true) (h2 : okc b = true) : okc (a ++ b) = true := by
  unfold okc at *
  rw [List.all_append, h1, h2]
  rfl
theorem k_near (n : Nat) {S : Store} {N : Nat} (hb : BG S 0 N) (hN : N + 3 < 2 ^ 58) :
    ∃ xs S', callN (n + 3) 30 [.loc 0] S = .ok (st xs) S' ∧ (okc xs = true ∧ xs.length ≤ 1000) ∧ S'.length = S.length ∧ BG S' 0 (N + 3) ∧ ∀ j, j ≠ 0 → S'[j]? = S[j]? := by
  obtain ⟨x, S1, mx, e1, z1, b1, o1⟩ := k_some n (ds := ones) hb (by omega) (by decide)
  obtain ⟨y, S2, my, e2, z2, b2, o2⟩ := k_some n (ds := twos) b1 (by omega) (by decide)
  obtain ⟨a, u, l, rfl, ha, hu, ku, hl, kl⟩ := one_at mx
  obtain ⟨b, rfl, kb⟩ := two_at my
  have fin : ∀ p ∈ n1 a b ++ [a ++ [10]] ++ n3 a u l, okc p = true ∧ p.length ≤ 1000 := by
    intro p m
    have c1 : ∀ k : Nat, k < 1114112 → okc [k] = true := fun k hk => by
      show (decide (k < 1114112) && true) = true
      rw [decide_eq_true hk]
      rfl
    simp only [n1, n3, List.cons_append, List.nil_append, List.mem_cons, List.not_mem_nil, or_false] at m
    have e46 := c1 46 (by decide)
    have ex : okc [46, 120] = true := by decide
    rcases m with rfl | rfl | rfl | rfl | rfl | rfl | rfl | rfl | rfl | rfl | rfl | rfl | rfl | rfl | rfl | rfl | rfl
    · exact ⟨ha.1, by omega⟩
    · exact ⟨okc_app (okc_app ha.1 e46) kb.1, by simp only [List.length_append, List.length_cons, List.length_nil]; omega⟩
    · exact ⟨okc_app ha.1 kb.1, by simp only [List.length_append]; omega⟩
    · exact ⟨okc_app kb.1 ha.1, by simp only [List.length_append]; omega⟩
    · exact ⟨okc_app ha.1 e46, by simp only [List.length_append, List.length_cons, List.length_nil]; omega⟩
    · exact ⟨okc_app e46 ha.1, by simp only [List.length_cons]; omega⟩
    · exact ⟨okc_app ha.1 (c1 120 (by decide)), by simp only [List.length_append, List.length_cons, List.length_nil]; omega⟩
    · exact ⟨okc_app (okc_app (okc_app ha.1 e46) kb.1) ex, by simp only [List.length_append, List.length_cons, List.length_nil]; omega⟩
    · exact ⟨okc_app ha.1 (c1 10 (by decide)), by simp only [List.length_append, List.length_cons, List.length_nil]; omega⟩
    · exact ⟨okc_app ha.1 (c1 32 (by decide)), by simp only [List.length_append, List.length_cons, List.length_nil]; omega⟩
    · exact ⟨okc_app ha.1 ha.1, by simp only [List.length_append]; omega⟩
    · exact ⟨okc_app (c1 95 (by decide)) ha.1, by simp only [List.length_cons]; omega⟩
    · exact ⟨okc_app (c1 49 (by decide)) ha.1, by simp only [List.length_cons]; omega⟩
    · exact ⟨ku.1, by omega⟩
    · exact ⟨kl.1, by omega⟩
    · exact ⟨okc_app ha.1 (c1 45 (by decide)), by simp only [List.length_append, List.length_cons, List.length_nil]; omega⟩
    · exact ⟨okc_app (c1 63 (by decide)) ha.1, by simp only [List.length_cons]; omega⟩
  obtain ⟨z, S3, mz, e3, z3, b3, o3⟩ := k_some n (ds := tq (n1 a b ++ [a ++ [10]] ++ n3 a u l)) b2 (by omega) (by
    show 0 < 17 ∧ 17 < 1073741824
    decide)
  obtain ⟨p, mp, rfl⟩ := List.mem_map.mp mz
  refine ⟨p, S3, ?_, fin p mp, by omega, b3.mono (by omega), fun j hj => ((o3 j hj).trans (o2 j hj)).trans (o1 j hj)⟩
  show toR (b30 (callN (n + 2)) [some (.loc 0), none, none, none] S) = _
  have cat : ∀ {x y : List Nat} {S' : Store}, x.length ≤ 100 → y.length ≤ 100 → gAdd (st x) (st y) S' = some (st (x ++ y), S') := fun h1 h2 => g_cat (by show _ ≤ 16777216; omega)
  unfold b30
  refine ret_ok ((ev_seq (ρ1 := [some (.loc 0), some (st a), none, none]) (S1 := S1) (ev_asg (i := 1) (fcall_at (ws := [.loc 0, .d (.list ones)]) (ev_ac (ev_var rfl) (ev_one ?_)) e1 z1 rfl))).trans ?_)
  · exact ev_L (ws := ones.map W.d) (by rfl) rfl
  refine (ev_seq (ρ1 := [some (.loc 0), some (st a), some (st b), none]) (S1 := S2) (ev_asg (i := 2) (fcall_at (ws := [.loc 0, .d (.list twos)]) (ev_ac (ev_var rfl) (ev_one (ev_L (ws := twos.map W.d) (by rfl) rfl))) e2 z2 rfl))).trans ?_
  have catL : ∀ {L1 L2 : List (List Nat)} {S' : Store}, L1.length + L2.length ≤ 100 → gAdd (.d (.list (tq L1))) (.d (.list (tq L2))) S' = some (.d (.list (tq (L1 ++ L2))), S') := fun {L1 L2 S'} h => by
    unfold gAdd
    simp only [asL]
    rw [if_pos (show (tq L1).length + (tq L2).length ≤ lim by unfold tq; rw [List.length_map, List.length_map]; show _ ≤ 16777216; omega)]
    unfold tq
    rw [List.map_append]
  have v1 : ∀ {v3 : Option W}, fVar 1 [some (.loc 0), some (st a), some (st b), v3] S2 = .ok (st a) S2 := fun {_} => rfl
  have v2 : ∀ {v3 : Option W}, fVar 2 [some (.loc 0), some (st a), some (st b), v3] S2 = .ok (st b) S2 := fun {_} => rfl
  have ct : ∀ (s : PyData) (q : List Nat) (ρ : Rho), s = .str (tx q) → fC s ρ S2 = .ok (st q) S2 := fun s q ρ e => by rw [e]; rfl
  have la := ha.2
  have lb := kb.2
  have w2 : ∀ {v3 : Option W}, f2 gAdd (f2 gAdd (fVar 1) (fC (.str "."))) (fVar 2) [some (.loc 0), some (st a), some (st b), v3] S2 = .ok (st (a ++ [46] ++ b)) S2 := fun {_} => ev_f2 (ev_f2 v1 (ct _ [46] _ rfl) (cat (by omega) (by decide))) v2 (cat (by rw [List.length_append]; show _ + 1 ≤ _; omega) (by omega))
  refine (ev_seq (ρ1 := [some (.loc 0), some (st a), some (st b), some (.d (.list (tq (n1 a b))))]) (S1 := S2) (ev_asg (i := 3) (ev_L (ws := (tq (n1 a b)).map W.d) ?_ rfl))).trans ?_
  · exact ev_ac v1 (ev_ac w2 (ev_ac (ev_f2 v1 v2 (cat (by omega) (by omega))) (ev_ac (ev_f2 v2 v1 (cat (by omega) (by omega))) (ev_ac (ev_f2 v1 (ct _ [46] _ rfl) (cat (by omega) (by decide))) (ev_ac (ev_f2 (ct _ [46] _ rfl) v1 (cat (by decide) (by omega))) (ev_ac (ev_f2 v1 (ct _ [120] _ rfl) (cat (by omega) (by decide))) (ev_one (ev_f2 w2 (ct _ [46, 120] _ rfl) (cat (by rw [List.length_append, List.length_append]; show _ + 1 + _ ≤ _; omega) (by decide))))))))))
  refine (ev_seq (ρ1 := [some (.loc 0), some (st a), some (st b), some (.d (.list (tq (n1 a b ++ [a ++ [10]]))))]) (S1 := S2) (ev_asg (i := 3) (ev_f2 (ev_var rfl) (ev_L (ws := (tq [a ++ [10]]).map W.d) (ev_one (ev_f2 v1 (ct _ [10] _ rfl) (cat (by omega) (by decide)))) rfl) (catL (L1 := n1 a b) (L2 := [a ++ [10]]) (show 8 + 1 ≤ 100 by decide))))).trans ?_
  have m0 : ∀ {g : GM} {q : List Nat} {v3 : Option W}, (∀ S, g (st a) [] S = some (st q, S)) → fMethS0 g (fVar 1) [some (.loc 0), some (st a), some (st b), v3] S2 = .ok (st q) S2 := fun {g q _} h => by
    unfold fMethS0
    rw [v1, R_ok]
    show lift (g (st a) [] S2) = _
    rw [h]
    rfl
  refine (ev_seq (ρ1 := [some (.loc 0), some (st a), some (st b), some (.d (.list (tq (n1 a b ++ [a ++ [10]] ++ n3 a u l))))]) (S1 := S2) (ev_asg (i := 3) (ev_f2 (ev_var rfl) (ev_L (ws := (tq (n3 a u l)).map W.d) ?_ rfl) (catL (L1 := n1 a b ++ [a ++ [10]]) (L2 := n3 a u l) (by simp [n1, n3]))))).trans ?_
  · exact ev_ac (ev_f2 v1 (ct _ [32] _ rfl) (cat (by omega) (by decide))) (ev_ac (ev_f2 v1 v1 (cat (by omega) (by omega))) (ev_ac (ev_f2 (ct _ [95] _ rfl) v1 (cat (by decide) (by omega))) (ev_ac (ev_f2 (ct _ [49] _ rfl) v1 (cat (by decide) (by omega))) (ev_ac (m0 hu) (ev_ac (m0 hl) (ev_ac (ev_f2 v1 (ct _ [45] _ rfl) (cat (by omega) (by decide))) (ev_one (ev_f2 (ct _ [63] _ rfl) v1 (cat (by decide) (by omega))))))))))
  exact ev_ret (fcall_at (ws := [.loc 0, .d (.list (tq (n1 a b ++ [a ++ [10]] ++ n3 a u l)))]) (ev_ac (ev_var rfl) (ev_one (ev_var rfl))) e3 z3 rfl)
end Q0
end VI
set_option Elab.async false
set_option linter.all false
set_option maxRecDepth 100000
namespace VI
open PySem PySem.Spec PyProof.Rows L2
namespace Q0

/-! the odd values -/
def od1 : List PyData := [.none, .bool true, .bool false, .int 0, .int 1, .int (-1), .int (10 ^ 39), .str "", .str "x", .str "A", .str "let", .str "M.x", .str "x.y", .str "A.B", .tuple [], .list [], .dict [(.bool true, .none)], .tuple [.int 0], .list [.int 0]]
def od2 : List PyData := [.tuple [.str "num"], .tuple [.str "num", .int 1], .tuple [.str "num", .bool true], .tuple [.str "num", .int 2147483648], .tuple [.str "any"], .list [.str "any"], .tuple [.str "var", .int 0], .tuple [.str "var", .int (-1)]]
def od3 : List PyData := [.tuple [.str "tuple", .tuple [.tuple [.str "num", .int 1]]], .tuple [.str "name", .str "Let"], .tuple [.str "name", .str "end"], .tuple [.str "bind", .str "M.x"], .tuple [.str "make", .str "A", .tuple []]]
def od4 : List PyData := [.tuple [.str "record", .tuple []], .tuple [.str "truth", .int 1], .tuple [.str "of", .str "A", .none], .tuple [.str "rec", .tuple [], .tuple [.str "num", .int 1]], .tuple [.str "op", .str "-", .int 0, .int 0]]
def od5 : List PyData := [.dict [(.bool true, .none), (.int 0, .int 1)], .tuple [.tuple []]]
def odds : List PyData := (((od1 ++ od2) ++ od3) ++ od4) ++ od5
theorem odds_len : odds.length = 39 := rfl
theorem k_odd (n : Nat) {S : Store} {N : Nat} (hb : BG S 0 N) (hN : N < 2 ^ 59) :
    ∃ x S', x ∈ odds ∧ callN (n + 3) 26 [.loc 0] S = .ok (.d x) S' ∧ S'.length = S.length ∧ BG S' 0 (N + 1) ∧ ∀ j, j ≠ 0 → S'[j]? = S[j]? := by
  obtain ⟨x, S1, mx, e1, z1, b1, o1⟩ := k_some n (ds := odds) hb hN (by rw [odds_len]; decide)
  refine ⟨x, S1, mx, ?_, z1, b1, o1⟩
  have ad : ∀ {L1 L2 : List PyData} {S' : Store}, L1.length + L2.length ≤ 100 → gAdd (.d (.list L1)) (.d (.list L2)) S' = some (.d (.list (L1 ++ L2)), S') := fun {L1 L2 S'} h => by
    unfold gAdd
    simp only [asL]
    rw [if_pos (show L1.length + L2.length ≤ lim by show _ ≤ 16777216; omega)]
  show toR (b26 (callN (n + 2)) [some (.loc 0), none] S) = _
  unfold b26
  refine ret_ok ((ev_seq (ρ1 := [some (.loc 0), some (.d (.list od1))]) (S1 := S) (ev_asg (i := 1) (ev_L (ws := od1.map W.d) (by rfl) rfl))).trans ?_)
  refine (ev_seq (ρ1 := [some (.loc 0), some (.d (.list (od1 ++ od2)))]) (S1 := S) (ev_asg (i := 1) (ev_f2 (ev_var rfl) (ev_L (ws := od2.map W.d) (by rfl) rfl) (ad (by decide))))).trans ?_
  refine (ev_seq (ρ1 := [some (.loc 0), some (.d (.list ((od1 ++ od2) ++ od3)))]) (S1 := S) (ev_asg (i := 1) (ev_f2 (ev_var rfl) (ev_L (ws := od3.map W.d) (by rfl) rfl) (ad (by decide))))).trans ?_
  refine (ev_seq (ρ1 := [some (.loc 0), some (.d (.list (((od1 ++ od2) ++ od3) ++ od4)))]) (S1 := S) (ev_asg (i := 1) (ev_f2 (ev_var rfl) (ev_L (ws := od4.map W.d) (by rfl) rfl) (ad (by decide))))).trans ?_
  exact ev_ret (fcall_at (ws := [.loc 0, .d (.list odds)]) (ev_ac (ev_var rfl) (ev_one (ev_f2 (ev_var rfl) (ev_L (ws := od5.map W.d) (by rfl) rfl) (ad (by decide))))) e1 z1 rfl)
/-! what is told of a value -/
def namedOk : PyData → Bool
  | .dict ((.bool true, _) :: _) => true
  | .dict ((.none, .none) :: _) => true
  | .dict _ => false
  | .str s => okc s.cps.toList && decide (s.cps.toList.length ≤ 1000)
  | _ => true
theorem tx_list (s : Str) : s = tx s.cps.toList := by
  obtain ⟨⟨l⟩⟩ := s
  rfl
theorem named_any (n : Nat) {S : Store} {d : PyData} (h : namedOk d = true) : callN (n + 5) 31 [.d d] S = .ok (bt true) S := by
  cases d with
  | none => exact named_none n
  | bool b => exact named_bool n
  | int i => exact named_int n
  | str s =>
    rw [namedOk, Bool.and_eq_true, decide_eq_true_eq] at h
    rw [tx_list s]
    exact k_named n h.2 h.1
  | list xs => exact named_list n
  | tuple xs => exact named_tup n
  | dict ps =>
    unfold namedOk at h
    split at h
    · rename_i e; cases e; exact named_dict n
    · rename_i e; cases e; exact named_err n
    · cases h
    · rename_i e; cases e
    · rename_i a b c; exact (b _ rfl).elim
theorem odds_named : odds.all namedOk = true := by decide +kernel
theorem odd_named {x : PyData} (h : x ∈ odds) : namedOk x = true := List.all_eq_true.mp odds_named x h
/-- lists that are alike with themselves -/
def xOk (xs : List PyData) : Bool := eqOks xs && (decide (PyData.depthAll xs ≤ 60) && (okD (.list xs) && ((realD (.list xs)).showable && (decide ((realD (.list xs)).depth ≤ 64) && decide ((realD (.list xs)).shown.length ≤ lim)))))
theorem x_alike (n : Nat) {w u : W} {xs : List PyData} {S : Store} (hw : asD w S = some (.list xs)) (hu : asD u S = some (.list xs)) (h : xOk xs = true) : callN (n + 1) 12 [w, u] S = .ok (bt true) S := by
  obtain ⟨h1, h⟩ := He.ba h
  obtain ⟨h2, h⟩ := He.ba h
  obtain ⟨h3, h⟩ := He.ba h
  obtain ⟨h4, h⟩ := He.ba h
  obtain ⟨h5, h6⟩ := He.ba h
  exact alikeA_runX hw hu h1 (of_decide_eq_true h2) ⟨h3, h4, of_decide_eq_true h5, of_decide_eq_true h6⟩
def fiveOk (x : PyData) : Bool := [[], [x], [x, .list [x]], [.list [x]], [.list [x], x], [.list [.int 0, x]], [.list [.int 0, x], x]].all xOk
theorem odds_five : odds.all fiveOk = true := by decide +kernel
theorem odd_five {x : PyData} (h : x ∈ odds) : fiveOk x = true := List.all_eq_true.mp odds_five x h
end Q0
end VI
set_option Elab.async false
set_option linter.all false
set_option maxRecDepth 100000
namespace VI
open PySem PySem.Spec PyProof.Rows L2
namespace Q0

/-! an error of each class -/
def tbl : List (Str × List Str) := [("Broken", ["index"]), ("Hidden", ["module", "name"]), ("NoIndex", ["index"]), ("NoModule", ["module", "name"]), ("NoName", ["module", "name"]), ("NoText", ["line", "column"]), ("NoValues", ["module", "name"]), ("NotFit", ["module", "name"]), ("NotKind", []), ("NotProgram", []),
  ("NotTyped", ["lot"]), ("NotWhole", ["place", "pattern"]), ("Nothing", []), ("Stuck", []), ("TooGreat", ["most"]), ("TooMany", ["most"]), ("Twice", ["module", "name"]), ("Untaken", []), ("UseRing", ["names"]), ("Wrong", ["place"])]
def rowW (a b : W) (p : Str × List Str) : W := .tp [.er p.1 p.2 ([a, b].take p.2.length), mkL ([a, b].take p.2.length)]
def rowsW (a b : W) : List W := tbl.map (rowW a b)
theorem rows_d (call : Calls) (x y : PyData) (s0 s1 : SO) : runB 18 (b28 call) [.d x, .d y] [s0, s1] = .ok (.lw (rowsW (.d x) (.d y))) [s0, s1, .lw ((rowsW (.d x) (.d y)).take 19)] := by
  kernel_rfl
theorem rows_l (call : Calls) (y : PyData) (s0 s1 : SO) : runB 18 (b28 call) [.loc 1, .d y] [s0, s1] = .ok (.lw (rowsW (.loc 1) (.d y))) [s0, s1, .lw ((rowsW (.loc 1) (.d y)).take 19)] := by
  kernel_rfl
end Q0
end VI
set_option Elab.async false
set_option linter.all false
set_option maxRecDepth 100000
namespace VI
open PySem PySem.Spec PyProof.Rows L2
namespace Q0

/-! of which class an error is -/
def B (k : Nat) (m : Nat) : List PyData := ((List.range 20).map fun i => PyData.bool (decide (i = k))).take m
def keepK (k : Nat) (w : W) : Bool := match w with
  | .d (.int i) => decide (i = (k : Int))
  | _ => false
def theD (w : W) : PyData := match w with
  | .d x => x
  | _ => .none
theorem keep_all (k : Nat) (h : k < 20) : ((rangeW 0 20).filter (keepK k)).map theD = [.int (k : Int)] := by
  match k, h with

  | 0, _ => rfl
  | 1, _ => rfl
  | 2, _ => rfl
  | 3, _ => rfl
  | 4, _ => rfl
  | 5, _ => rfl
  | 6, _ => rfl
  | 7, _ => rfl
  | 8, _ => rfl
  | 9, _ => rfl
  | 10, _ => rfl
  | 11, _ => rfl
  | 12, _ => rfl
  | 13, _ => rfl
  | 14, _ => rfl
  | 15, _ => rfl
  | 16, _ => rfl
  | 17, _ => rfl
  | 18, _ => rfl
  | 19, _ => rfl
  | n + 20, h => omega
theorem B_at (k i : Nat) (h : i < 20) : (B k 20)[i]? = some (.bool (decide (i = k))) := by
  unfold B
  rw [List.take_of_length_le (by rw [List.length_map, List.length_range]; exact Nat.le_refl _), List.getElem?_map, List.getElem?_range h]
  rfl
theorem ret27 (k : Nat) (hk : k < 20) (e : W) (s0 s1 : SO) : fRet (fLc (fRng rng1 (fAc (fC (.int 20)) fA0)) (gtName 2) (fTru (f2 gIx (fVar 1) (fVar 2))) (fVar 2) [2]) [some e, some (.loc 2), none] [s0, s1, .lst (B k 20)] = .ret (.d (.list [.int (k : Int)])) [s0, s1, .lst (B k 20)] := by
  have h := flc_gen (it := fRng rng1 (fAc (fC (.int 20)) fA0)) (g := gtName 2) (t := fTru (f2 gIx (fVar 1) (fVar 2))) (el := fVar 2) (vs := [2]) (ρ := [some e, some (.loc 2), none]) (S := [s0, s1, .lst (B k 20)]) (f := theD) (b := keepK k) (rng_nat 20 (by decide)) (by rw [rangeW_len]; decide) (fun _ _ => trivial) fun w m S' sm => by
    obtain ⟨i, hi⟩ := List.getElem?_of_mem m
    obtain ⟨lt, rfl⟩ := rangeW_get hi
    have e2 : S'[2]? = some (.lst (B k 20)) := sm.at rfl
    refine ⟨[some e, some (.loc 2), some (.d (.int (0 + (i : Int))))], rfl, ?_, fun _ => rfl⟩
    have ix : gIx (.loc 2) (.d (.int (0 + (i : Int)))) S' = some (bt (decide (i = k)), S') := by
      unfold gIx
      simp only [asSeq, e2]
      have : atI (B k 20) (0 + (i : Int)) = some (.bool (decide (i = k))) := by
        have ln : (B k 20).length = 20 := by unfold B; rw [List.length_take, List.length_map, List.length_range]; rfl
        unfold atI
        have e3 : ixN (B k 20).length (0 + (i : Int)) = some i := by
          rw [ln]
          unfold ixN
          rw [if_pos (by omega), if_pos (by omega)]
          congr 1
          omega
        rw [e3]
        exact B_at k i lt
      rw [this]
      rfl
    have tv : f2 gIx (fVar 1) (fVar 2) [some e, some (.loc 2), some (.d (.int (0 + (i : Int))))] S' = .ok (bt (decide (i = k))) S' := ev_f2 rfl rfl ix
    unfold fTru
    rw [tv, R_ok]
    show R.ok (decide (i = k)) S' = .ok (keepK k (.d (.int (0 + (i : Int))))) S'
    have : decide (i = k) = keepK k (.d (.int (0 + (i : Int)))) := by
      show decide (i = k) = decide (0 + (i : Int) = (k : Int))
      congr 1
      exact propext ⟨fun h => by omega, fun h => by omega⟩
    rw [this]
  rw [keep_all k hk] at h
  exact ev_ret h

theorem c27_0 (n : Nat) (fs : List Str) (ws : List W) (s0 s1 : SO) : callN (n + 1) 27 [.er "Broken" fs ws] [s0, s1] = .ok (.d (.list [.int (0 : Nat)])) [s0, s1, .lst (B 0 20)] := by
  show toR (b27 (callN n) [some (.er "Broken" fs ws), none, none] [s0, s1]) = _
  unfold b27
  refine ret_ok ((ev_seq (ρ1 := [some (.er "Broken" fs ws), some (.loc 2), none]) (S1 := [s0, s1, .lst (B 0 3)]) (by kernel_rfl)).trans ?_)
  refine ((ev_seq (ρ1 := [some (.er "Broken" fs ws), some (.loc 2), none]) (S1 := [s0, s1, .lst (B 0 6)]) (by kernel_rfl)).trans ?_)
  refine ((ev_seq (ρ1 := [some (.er "Broken" fs ws), some (.loc 2), none]) (S1 := [s0, s1, .lst (B 0 7)]) (by kernel_rfl)).trans ?_)
  refine ((ev_seq (ρ1 := [some (.er "Broken" fs ws), some (.loc 2), none]) (S1 := [s0, s1, .lst (B 0 10)]) (by kernel_rfl)).trans ?_)
  refine ((ev_seq (ρ1 := [some (.er "Broken" fs ws), some (.loc 2), none]) (S1 := [s0, s1, .lst (B 0 13)]) (by kernel_rfl)).trans ?_)
  refine ((ev_seq (ρ1 := [some (.er "Broken" fs ws), some (.loc 2), none]) (S1 := [s0, s1, .lst (B 0 16)]) (by kernel_rfl)).trans ?_)
  refine ((ev_seq (ρ1 := [some (.er "Broken" fs ws), some (.loc 2), none]) (S1 := [s0, s1, .lst (B 0 18)]) (by kernel_rfl)).trans ?_)
  refine ((ev_seq (ρ1 := [some (.er "Broken" fs ws), some (.loc 2), none]) (S1 := [s0, s1, .lst (B 0 20)]) (by kernel_rfl)).trans ?_)
  exact ret27 0 (by decide) _ s0 s1
theorem c27_1 (n : Nat) (fs : List Str) (ws : List W) (s0 s1 : SO) : callN (n + 1) 27 [.er "Hidden" fs ws] [s0, s1] = .ok (.d (.list [.int (1 : Nat)])) [s0, s1, .lst (B 1 20)] := by
  show toR (b27 (callN n) [some (.er "Hidden" fs ws), none, none] [s0, s1]) = _
  unfold b27
  refine ret_ok ((ev_seq (ρ1 := [some (.er "Hidden" fs ws), some (.loc 2), none]) (S1 := [s0, s1, .lst (B 1 3)]) (by kernel_rfl)).trans ?_)
  refine ((ev_seq (ρ1 := [some (.er "Hidden" fs ws), some (.loc 2), none]) (S1 := [s0, s1, .lst (B 1 6)]) (by kernel_rfl)).trans ?_)
  refine ((ev_seq (ρ1 := [some (.er "Hidden" fs ws), some (.loc 2), none]) (S1 := [s0, s1, .lst (B 1 7)]) (by kernel_rfl)).trans ?_)
  refine ((ev_seq (ρ1 := [some (.er "Hidden" fs ws), some (.loc 2), none]) (S1 := [s0, s1, .lst (B 1 10)]) (by kernel_rfl)).trans ?_)
  refine ((ev_seq (ρ1 := [some (.er "Hidden" fs ws), some (.loc 2), none]) (S1 := [s0, s1, .lst (B 1 13)]) (by kernel_rfl)).trans ?_)
  refine ((ev_seq (ρ1 := [some (.er "Hidden" fs ws), some (.loc 2), none]) (S1 := [s0, s1, .lst (B 1 16)]) (by kernel_rfl)).trans ?_)
  refine ((ev_seq (ρ1 := [some (.er "Hidden" fs ws), some (.loc 2), none]) (S1 := [s0, s1, .lst (B 1 18)]) (by kernel_rfl)).trans ?_)
  refine ((ev_seq (ρ1 := [some (.er "Hidden" fs ws), some (.loc 2), none]) (S1 := [s0, s1, .lst (B 1 20)]) (by kernel_rfl)).trans ?_)
  exact ret27 1 (by decide) _ s0 s1
theorem c27_2 (n : Nat) (fs : List Str) (ws : List W) (s0 s1 : SO) : callN (n + 1) 27 [.er "NoIndex" fs ws] [s0, s1] = .ok (.d (.list [.int (2 : Nat)])) [s0, s1, .lst (B 2 20)] := by
  show toR (b27 (callN n) [some (.er "NoIndex" fs ws), none, none] [s0, s1]) = _
  unfold b27
  refine ret_ok ((ev_seq (ρ1 := [some (.er "NoIndex" fs ws), some (.loc 2), none]) (S1 := [s0, s1, .lst (B 2 3)]) (by kernel_rfl)).trans ?_)
  refine ((ev_seq (ρ1 := [some (.er "NoIndex" fs ws), some (.loc 2), none]) (S1 := [s0, s1, .lst (B 2 6)]) (by kernel_rfl)).trans ?_)
  refine ((ev_seq (ρ1 := [some (.er "NoIndex" fs ws), some (.loc 2), none]) (S1 := [s0, s1, .lst (B 2 7)]) (by kernel_rfl)).trans ?_)
  refine ((ev_seq (ρ1 := [some (.er "NoIndex" fs ws), some (.loc 2), none]) (S1 := [s0, s1, .lst (B 2 10)]) (by kernel_rfl)).trans ?_)
  refine ((ev_seq (ρ1 := [some (.er "NoIndex" fs ws), some (.loc 2), none]) (S1 := [s0, s1, .lst (B 2 13)]) (by kernel_rfl)).trans ?_)
  refine ((ev_seq (ρ1 := [some (.er "NoIndex" fs ws), some (.loc 2), none]) (S1 := [s0, s1, .lst (B 2 16)]) (by kernel_rfl)).trans ?_)
  refine ((ev_seq (ρ1 := [some (.er "NoIndex" fs ws), some (.loc 2), none]) (S1 := [s0, s1, .lst (B 2 18)]) (by kernel_rfl)).trans ?_)
  refine ((ev_seq (ρ1 := [some (.er "NoIndex" fs ws), some (.loc 2), none]) (S1 := [s0, s1, .lst (B 2 20)]) (by kernel_rfl)).trans ?_)
  exact ret27 2 (by decide) _ s0 s1
theorem c27_3 (n : Nat) (fs : List Str) (ws : List W) (s0 s1 : SO) : callN (n + 1) 27 [.er "NoModule" fs ws] [s0, s1] = .ok (.d (.list [.int (3 : Nat)])) [s0, s1, .lst (B 3 20)] := by
  show toR (b27 (callN n) [some (.er "NoModule" fs ws), none, none] [s0, s1]) = _
  unfold b27
  refine ret_ok ((ev_seq (ρ1 := [some (.er "NoModule" fs ws), some (.loc 2), none]) (S1 := [s0, s1, .lst (B 3 3)]) (by kernel_rfl)).trans ?_)
  refine ((ev_seq (ρ1 := [some (.er "NoModule" fs ws), some (.loc 2), none]) (S1 := [s0, s1, .lst (B 3 6)]) (by kernel_rfl)).trans ?_)
  refine ((ev_seq (ρ1 := [some (.er "NoModule" fs ws), some (.loc 2), none]) (S1 := [s0, s1, .lst (B 3 7)]) (by kernel_rfl)).trans ?_)
  refine ((ev_seq (ρ1 := [some (.er "NoModule" fs ws), some (.loc 2), none]) (S1 := [s0, s1, .lst (B 3 10)]) (by kernel_rfl)).trans ?_)
  refine ((ev_seq (ρ1 := [some (.er "NoModule" fs ws), some (.loc 2), none]) (S1 := [s0, s1, .lst (B 3 13)]) (by kernel_rfl)).trans ?_)
  refine ((ev_seq (ρ1 := [some (.er "NoModule" fs ws), some (.loc 2), none]) (S1 := [s0, s1, .lst (B 3 16)]) (by kernel_rfl)).trans ?_)
  refine ((ev_seq (ρ1 := [some (.er "NoModule" fs ws), some (.loc 2), none]) (S1 := [s0, s1, .lst (B 3 18)]) (by kernel_rfl)).trans ?_)
  refine ((ev_seq (ρ1 := [some (.er "NoModule" fs ws), some (.loc 2), none]) (S1 := [s0, s1, .lst (B 3 20)]) (by kernel_rfl)).trans ?_)
  exact ret27 3 (by decide) _ s0 s1
theorem c27_4 (n : Nat) (fs : List Str) (ws : List W) (s0 s1 : SO) : callN (n + 1) 27 [.er "NoName" fs ws] [s0, s1] = .ok (.d (.list [.int (4 : Nat)])) [s0, s1, .lst (B 4 20)] := by
  show toR (b27 (callN n) [some (.er "NoName" fs ws), none, none] [s0, s1]) = _
  unfold b27
  refine ret_ok ((ev_seq (ρ1 := [some (.er "NoName" fs ws), some (.loc 2), none]) (S1 := [s0, s1, .lst (B 4 3)]) (by kernel_rfl)).trans ?_)
  refine ((ev_seq (ρ1 := [some (.er "NoName" fs ws), some (.loc 2), none]) (S1 := [s0, s1, .lst (B 4 6)]) (by kernel_rfl)).trans ?_)
  refine ((ev_seq (ρ1 := [some (.er "NoName" fs ws), some (.loc 2), none]) (S1 := [s0, s1, .lst (B 4 7)]) (by kernel_rfl)).trans ?_)
  refine ((ev_seq (ρ1 := [some (.er "NoName" fs ws), some (.loc 2), none]) (S1 := [s0, s1, .lst (B 4 10)]) (by kernel_rfl)).trans ?_)
  refine ((ev_seq (ρ1 := [some (.er "NoName" fs ws), some (.loc 2), none]) (S1 := [s0, s1, .lst (B 4 13)]) (by kernel_rfl)).trans ?_)
  refine ((ev_seq (ρ1 := [some (.er "NoName" fs ws), some (.loc 2), none]) (S1 := [s0, s1, .lst (B 4 16)]) (by kernel_rfl)).trans ?_)
  refine ((ev_seq (ρ1 := [some (.er "NoName" fs ws), some (.loc 2), none]) (S1 := [s0, s1, .lst (B 4 18)]) (by kernel_rfl)).trans ?_)
  refine ((ev_seq (ρ1 := [some (.er "NoName" fs ws), some (.loc 2), none]) (S1 := [s0, s1, .lst (B 4 20)]) (by kernel_rfl)).trans ?_)
  exact ret27 4 (by decide) _ s0 s1
theorem c27_5 (n : Nat) (fs : List Str) (ws : List W) (s0 s1 : SO) : callN (n + 1) 27 [.er "NoText" fs ws] [s0, s1] = .ok (.d (.list [.int (5 : Nat)])) [s0, s1, .lst (B 5 20)] := by
  show toR (b27 (callN n) [some (.er "NoText" fs ws), none, none] [s0, s1]) = _
  unfold b27
  refine ret_ok ((ev_seq (ρ1 := [some (.er "NoText" fs ws), some (.loc 2), none]) (S1 := [s0, s1, .lst (B 5 3)]) (by kernel_rfl)).trans ?_)
  refine ((ev_seq (ρ1 := [some (.er "NoText" fs ws), some (.loc 2), none]) (S1 := [s0, s1, .lst (B 5 6)]) (by kernel_rfl)).trans ?_)
  refine ((ev_seq (ρ1 := [some (.er "NoText" fs ws), some (.loc 2), none]) (S1 := [s0, s1, .lst (B 5 7)]) (by kernel_rfl)).trans ?_)
  refine ((ev_seq (ρ1 := [some (.er "NoText" fs ws), some (.loc 2), none]) (S1 := [s0, s1, .lst (B 5 10)]) (by kernel_rfl)).trans ?_)
  refine ((ev_seq (ρ1 := [some (.er "NoText" fs ws), some (.loc 2), none]) (S1 := [s0, s1, .lst (B 5 13)]) (by kernel_rfl)).trans ?_)
  refine ((ev_seq (ρ1 := [some (.er "NoText" fs ws), some (.loc 2), none]) (S1 := [s0, s1, .lst (B 5 16)]) (by kernel_rfl)).trans ?_)
  refine ((ev_seq (ρ1 := [some (.er "NoText" fs ws), some (.loc 2), none]) (S1 := [s0, s1, .lst (B 5 18)]) (by kernel_rfl)).trans ?_)
  refine ((ev_seq (ρ1 := [some (.er "NoText" fs ws), some (.loc 2), none]) (S1 := [s0, s1, .lst (B 5 20)]) (by kernel_rfl)).trans ?_)
  exact ret27 5 (by decide) _ s0 s1
theorem c27_6 (n : Nat) (fs : List Str) (ws : List W) (s0 s1 : SO) : callN (n + 1) 27 [.er "NoValues" fs ws] [s0, s1] = .ok (.d (.list [.int (6 : Nat)])) [s0, s1, .lst (B 6 20)] := by
  show toR (b27 (callN n) [some (.er "NoValues" fs ws), none, none] [s0, s1]) = _
  unfold b27
  refine ret_ok ((ev_seq (ρ1 := [some (.er "NoValues" fs ws), some (.loc 2), none]) (S1 := [s0, s1, .lst (B 6 3)]) (by kernel_rfl)).trans ?_)
  refine ((ev_seq (ρ1 := [some (.er "NoValues" fs ws), some (.loc 2), none]) (S1 := [s0, s1, .lst (B 6 6)]) (by kernel_rfl)).trans ?_)
  refine ((ev_seq (ρ1 := [some (.er "NoValues" fs ws), some (.loc 2), none]) (S1 := [s0, s1, .lst (B 6 7)]) (by kernel_rfl)).trans ?_)
  refine ((ev_seq (ρ1 := [some (.er "NoValues" fs ws), some (.loc 2), none]) (S1 := [s0, s1, .lst (B 6 10)]) (by kernel_rfl)).trans ?_)
  refine ((ev_seq (ρ1 := [some (.er "NoValues" fs ws), some (.loc 2), none]) (S1 := [s0, s1, .lst (B 6 13)]) (by kernel_rfl)).trans ?_)
  refine ((ev_seq (ρ1 := [some (.er "NoValues" fs ws), some (.loc 2), none]) (S1 := [s0, s1, .lst (B 6 16)]) (by kernel_rfl)).trans ?_)
  refine ((ev_seq (ρ1 := [some (.er "NoValues" fs ws), some (.loc 2), none]) (S1 := [s0, s1, .lst (B 6 18)]) (by kernel_rfl)).trans ?_)
  refine ((ev_seq (ρ1 := [some (.er "NoValues" fs ws), some (.loc 2), none]) (S1 := [s0, s1, .lst (B 6 20)]) (by kernel_rfl)).trans ?_)
  exact ret27 6 (by decide) _ s0 s1
theorem c27_7 (n : Nat) (fs : List Str) (ws : List W) (s0 s1 : SO) : callN (n + 1) 27 [.er "NotFit" fs ws] [s0, s1] = .ok (.d (.list [.int (7 : Nat)])) [s0, s1, .lst (B 7 20)] := by
  show toR (b27 (callN n) [some (.er "NotFit" fs ws), none, none] [s0, s1]) = _
  unfold b27
  refine ret_ok ((ev_seq (ρ1 := [some (.er "NotFit" fs ws), some (.loc 2), none]) (S1 := [s0, s1, .lst (B 7 3)]) (by kernel_rfl)).trans ?_)
  refine ((ev_seq (ρ1 := [some (.er "NotFit" fs ws), some (.loc 2), none]) (S1 := [s0, s1, .lst (B 7 6)]) (by kernel_rfl)).trans ?_)
  refine ((ev_seq (ρ1 := [some (.er "NotFit" fs ws), some (.loc 2), none]) (S1 := [s0, s1, .lst (B 7 7)]) (by kernel_rfl)).trans ?_)
  refine ((ev_seq (ρ1 := [some (.er "NotFit" fs ws), some (.loc 2), none]) (S1 := [s0, s1, .lst (B 7 10)]) (by kernel_rfl)).trans ?_)
  refine ((ev_seq (ρ1 := [some (.er "NotFit" fs ws), some (.loc 2), none]) (S1 := [s0, s1, .lst (B 7 13)]) (by kernel_rfl)).trans ?_)
  refine ((ev_seq (ρ1 := [some (.er "NotFit" fs ws), some (.loc 2), none]) (S1 := [s0, s1, .lst (B 7 16)]) (by kernel_rfl)).trans ?_)
  refine ((ev_seq (ρ1 := [some (.er "NotFit" fs ws), some (.loc 2), none]) (S1 := [s0, s1, .lst (B 7 18)]) (by kernel_rfl)).trans ?_)
  refine ((ev_seq (ρ1 := [some (.er "NotFit" fs ws), some (.loc 2), none]) (S1 := [s0, s1, .lst (B 7 20)]) (by kernel_rfl)).trans ?_)
  exact ret27 7 (by decide) _ s0 s1
theorem c27_8 (n : Nat) (fs : List Str) (ws : List W) (s0 s1 : SO) : callN (n + 1) 27 [.er "NotKind" fs ws] [s0, s1] = .ok (.d (.list [.int (8 : Nat)])) [s0, s1, .lst (B 8 20)] := by
  show toR (b27 (callN n) [some (.er "NotKind" fs ws), none, none] [s0, s1]) = _
  unfold b27
  refine ret_ok ((ev_seq (ρ1 := [some (.er "NotKind" fs ws), some (.loc 2), none]) (S1 := [s0, s1, .lst (B 8 3)]) (by kernel_rfl)).trans ?_)
  refine ((ev_seq (ρ1 := [some (.er "NotKind" fs ws), some (.loc 2), none]) (S1 := [s0, s1, .lst (B 8 6)]) (by kernel_rfl)).trans ?_)
  refine ((ev_seq (ρ1 := [some (.er "NotKind" fs ws), some (.loc 2), none]) (S1 := [s0, s1, .lst (B 8 7)]) (by kernel_rfl)).trans ?_)
  refine ((ev_seq (ρ1 := [some (.er "NotKind" fs ws), some (.loc 2), none]) (S1 := [s0, s1, .lst (B 8 10)]) (by kernel_rfl)).trans ?_)
  refine ((ev_seq (ρ1 := [some (.er "NotKind" fs ws), some (.loc 2), none]) (S1 := [s0, s1, .lst (B 8 13)]) (by kernel_rfl)).trans ?_)
  refine ((ev_seq (ρ1 := [some (.er "NotKind" fs ws), some (.loc 2), none]) (S1 := [s0, s1, .lst (B 8 16)]) (by kernel_rfl)).trans ?_)
  refine ((ev_seq (ρ1 := [some (.er "NotKind" fs ws), some (.loc 2), none]) (S1 := [s0, s1, .lst (B 8 18)]) (by kernel_rfl)).trans ?_)
  refine ((ev_seq (ρ1 := [some (.er "NotKind" fs ws), some (.loc 2), none]) (S1 := [s0, s1, .lst (B 8 20)]) (by kernel_rfl)).trans ?_)
  exact ret27 8 (by decide) _ s0 s1
theorem c27_9 (n : Nat) (fs : List Str) (ws : List W) (s0 s1 : SO) : callN (n + 1) 27 [.er "NotProgram" fs ws] [s0, s1] = .ok (.d (.list [.int (9 : Nat)])) [s0, s1, .lst (B 9 20)] := by
  show toR (b27 (callN n) [some (.er "NotProgram" fs ws), none, none] [s0, s1]) = _
  unfold b27
  refine ret_ok ((ev_seq (ρ1 := [some (.er "NotProgram" fs ws), some (.loc 2), none]) (S1 := [s0, s1, .lst (B 9 3)]) (by kernel_rfl)).trans ?_)
  refine ((ev_seq (ρ1 := [some (.er "NotProgram" fs ws), some (.loc 2), none]) (S1 := [s0, s1, .lst (B 9 6)]) (by kernel_rfl)).trans ?_)
  refine ((ev_seq (ρ1 := [some (.er "NotProgram" fs ws), some (.loc 2), none]) (S1 := [s0, s1, .lst (B 9 7)]) (by kernel_rfl)).trans ?_)
  refine ((ev_seq (ρ1 := [some (.er "NotProgram" fs ws), some (.loc 2), none]) (S1 := [s0, s1, .lst (B 9 10)]) (by kernel_rfl)).trans ?_)
  refine ((ev_seq (ρ1 := [some (.er "NotProgram" fs ws), some (.loc 2), none]) (S1 := [s0, s1, .lst (B 9 13)]) (by kernel_rfl)).trans ?_)
  refine ((ev_seq (ρ1 := [some (.er "NotProgram" fs ws), some (.loc 2), none]) (S1 := [s0, s1, .lst (B 9 16)]) (by kernel_rfl)).trans ?_)
  refine ((ev_seq (ρ1 := [some (.er "NotProgram" fs ws), some (.loc 2), none]) (S1 := [s0, s1, .lst (B 9 18)]) (by kernel_rfl)).trans ?_)
  refine ((ev_seq (ρ1 := [some (.er "NotProgram" fs ws), some (.loc 2), none]) (S1 := [s0, s1, .lst (B 9 20)]) (by kernel_rfl)).trans ?_)
  exact ret27 9 (by decide) _ s0 s1
theorem c27_10 (n : Nat) (fs : List Str) (ws : List W) (s0 s1 : SO) : callN (n + 1) 27 [.er "NotTyped" fs ws] [s0, s1] = .ok (.d (.list [.int (10 : Nat)])) [s0, s1, .lst (B 10 20)] := by
  show toR (b27 (callN n) [some (.er "NotTyped" fs ws), none, none] [s0, s1]) = _
  unfold b27
  refine ret_ok ((ev_seq (ρ1 := [some (.er "NotTyped" fs ws), some (.loc 2), none]) (S1 := [s0, s1, .lst (B 10 3)]) (by kernel_rfl)).trans ?_)
  refine ((ev_seq (ρ1 := [some (.er "NotTyped" fs ws), some (.loc 2), none]) (S1 := [s0, s1, .lst (B 10 6)]) (by kernel_rfl)).trans ?_)
  refine ((ev_seq (ρ1 := [some (.er "NotTyped" fs ws), some (.loc 2), none]) (S1 := [s0, s1, .lst (B 10 7)]) (by kernel_rfl)).trans ?_)
  refine ((ev_seq (ρ1 := [some (.er "NotTyped" fs ws), some (.loc 2), none]) (S1 := [s0, s1, .lst (B 10 10)]) (by kernel_rfl)).trans ?_)
  refine ((ev_seq (ρ1 := [some (.er "NotTyped" fs ws), some (.loc 2), none]) (S1 := [s0, s1, .lst (B 10 13)]) (by kernel_rfl)).trans ?_)
  refine ((ev_seq (ρ1 := [some (.er "NotTyped" fs ws), some (.loc 2), none]) (S1 := [s0, s1, .lst (B 10 16)]) (by kernel_rfl)).trans ?_)
  refine ((ev_seq (ρ1 := [some (.er "NotTyped" fs ws), some (.loc 2), none]) (S1 := [s0, s1, .lst (B 10 18)]) (by kernel_rfl)).trans ?_)
  refine ((ev_seq (ρ1 := [some (.er "NotTyped" fs ws), some (.loc 2), none]) (S1 := [s0, s1, .lst (B 10 20)]) (by kernel_rfl)).trans ?_)
  exact ret27 10 (by decide) _ s0 s1
theorem c27_11 (n : Nat) (fs : List Str) (ws : List W) (s0 s1 : SO) : callN (n + 1) 27 [.er "NotWhole" fs ws] [s0, s1] = .ok (.d (.list [.int (11 : Nat)])) [s0, s1, .lst (B 11 20)] := by
  show toR (b27 (callN n) [some (.er "NotWhole" fs ws), none, none] [s0, s1]) = _
  unfold b27
  refine ret_ok ((ev_seq (ρ1 := [some (.er "NotWhole" fs ws), some (.loc 2), none]) (S1 := [s0, s1, .lst (B 11 3)]) (by kernel_rfl)).trans ?_)
  refine ((ev_seq (ρ1 := [some (.er "NotWhole" fs ws), some (.loc 2), none]) (S1 := [s0, s1, .lst (B 11 6)]) (by kernel_rfl)).trans ?_)
  refine ((ev_seq (ρ1 := [some (.er "NotWhole" fs ws), some (.loc 2), none]) (S1 := [s0, s1, .lst (B 11 7)]) (by kernel_rfl)).trans ?_)
  refine ((ev_seq (ρ1 := [some (.er "NotWhole" fs ws), some (.loc 2), none]) (S1 := [s0, s1, .lst (B 11 10)]) (by kernel_rfl)).trans ?_)
  refine ((ev_seq (ρ1 := [some (.er "NotWhole" fs ws), some (.loc 2), none]) (S1 := [s0, s1, .lst (B 11 13)]) (by kernel_rfl)).trans ?_)
  refine ((ev_seq (ρ1 := [some (.er "NotWhole" fs ws), some (.loc 2), none]) (S1 := [s0, s1, .lst (B 11 16)]) (by kernel_rfl)).trans ?_)
  refine ((ev_seq (ρ1 := [some (.er "NotWhole" fs ws), some (.loc 2), none]) (S1 := [s0, s1, .lst (B 11 18)]) (by kernel_rfl)).trans ?_)
  refine ((ev_seq (ρ1 := [some (.er "NotWhole" fs ws), some (.loc 2), none]) (S1 := [s0, s1, .lst (B 11 20)]) (by kernel_rfl)).trans ?_)
  exact ret27 11 (by decide) _ s0 s1
theorem c27_12 (n : Nat) (fs : List Str) (ws : List W) (s0 s1 : SO) : callN (n + 1) 27 [.er "Nothing" fs ws] [s0, s1] = .ok (.d (.list [.int (12 : Nat)])) [s0, s1, .lst (B 12 20)] := by
  show toR (b27 (callN n) [some (.er "Nothing" fs ws), none, none] [s0, s1]) = _
  unfold b27
  refine ret_ok ((ev_seq (ρ1 := [some (.er "Nothing" fs ws), some (.loc 2), none]) (S1 := [s0, s1, .lst (B 12 3)]) (by kernel_rfl)).trans ?_)
  refine ((ev_seq (ρ1 := [some (.er "Nothing" fs ws), some (.loc 2), none]) (S1 := [s0, s1, .lst (B 12 6)]) (by kernel_rfl)).trans ?_)
  refine ((ev_seq (ρ1 := [some (.er "Nothing" fs ws), some (.loc 2), none]) (S1 := [s0, s1, .lst (B 12 7)]) (by kernel_rfl)).trans ?_)
  refine ((ev_seq (ρ1 := [some (.er "Nothing" fs ws), some (.loc 2), none]) (S1 := [s0, s1, .lst (B 12 10)]) (by kernel_rfl)).trans ?_)
  refine ((ev_seq (ρ1 := [some (.er "Nothing" fs ws), some (.loc 2), none]) (S1 := [s0, s1, .lst (B 12 13)]) (by kernel_rfl)).trans ?_)
  refine ((ev_seq (ρ1 := [some (.er "Nothing" fs ws), some (.loc 2), none]) (S1 := [s0, s1, .lst (B 12 16)]) (by kernel_rfl)).trans ?_)
  refine ((ev_seq (ρ1 := [some (.er "Nothing" fs ws), some (.loc 2), none]) (S1 := [s0, s1, .lst (B 12 18)]) (by kernel_rfl)).trans ?_)
  refine ((ev_seq (ρ1 := [some (.er "Nothing" fs ws), some (.loc 2), none]) (S1 := [s0, s1, .lst (B 12 20)]) (by kernel_rfl)).trans ?_)
  exact ret27 12 (by decide) _ s0 s1
theorem c27_13 (n : Nat) (fs : List Str) (ws : List W) (s0 s1 : SO) : callN (n + 1) 27 [.er "Stuck" fs ws] [s0, s1] = .ok (.d (.list [.int (13 : Nat)])) [s0, s1, .lst (B 13 20)] := by
  show toR (b27 (callN n) [some (.er "Stuck" fs ws), none, none] [s0, s1]) = _
  unfold b27
  refine ret_ok ((ev_seq (ρ1 := [some (.er "Stuck" fs ws), some (.loc 2), none]) (S1 := [s0, s1, .lst (B 13 3)]) (by kernel_rfl)).trans ?_)
  refine ((ev_seq (ρ1 := [some (.er "Stuck" fs ws), some (.loc 2), none]) (S1 := [s0, s1, .lst (B 13 6)]) (by kernel_rfl)).trans ?_)
  refine ((ev_seq (ρ1 := [some (.er "Stuck" fs ws), some (.loc 2), none]) (S1 := [s0, s1, .lst (B 13 7)]) (by kernel_rfl)).trans ?_)
  refine ((ev_seq (ρ1 := [some (.er "Stuck" fs ws), some (.loc 2), none]) (S1 := [s0, s1, .lst (B 13 10)]) (by kernel_rfl)).trans ?_)
  refine ((ev_seq (ρ1 := [some (.er "Stuck" fs ws), some (.loc 2), none]) (S1 := [s0, s1, .lst (B 13 13)]) (by kernel_rfl)).trans ?_)
  refine ((ev_seq (ρ1 := [some (.er "Stuck" fs ws), some (.loc 2), none]) (S1 := [s0, s1, .lst (B 13 16)]) (by kernel_rfl)).trans ?_)
  refine ((ev_seq (ρ1 := [some (.er "Stuck" fs ws), some (.loc 2), none]) (S1 := [s0, s1, .lst (B 13 18)]) (by kernel_rfl)).trans ?_)
  refine ((ev_seq (ρ1 := [some (.er "Stuck" fs ws), some (.loc 2), none]) (S1 := [s0, s1, .lst (B 13 20)]) (by kernel_rfl)).trans ?_)
  exact ret27 13 (by decide) _ s0 s1
theorem c27_14 (n : Nat) (fs : List Str) (ws : List W) (s0 s1 : SO) : callN (n + 1) 27 [.er "TooGreat" fs ws] [s0, s1] = .ok (.d (.list [.int (14 : Nat)])) [s0, s1, .lst (B 14 20)] := by
  show toR (b27 (callN n) [some (.er "TooGreat" fs ws), none, none] [s0, s1]) = _
  unfold b27
  refine ret_ok ((ev_seq (ρ1 := [some (.er "TooGreat" fs ws), some (.loc 2), none]) (S1 := [s0, s1, .lst (B 14 3)]) (by kernel_rfl)).trans ?_)
  refine ((ev_seq (ρ1 := [some (.er "TooGreat" fs ws), some (.loc 2), none]) (S1 := [s0, s1, .lst (B 14 6)]) (by kernel_rfl)).trans ?_)
  refine ((ev_seq (ρ1 := [some (.er "TooGreat" fs ws), some (.loc 2), none]) (S1 := [s0, s1, .lst (B 14 7)]) (by kernel_rfl)).trans ?_)
  refine ((ev_seq (ρ1 := [some (.er "TooGreat" fs ws), some (.loc 2), none]) (S1 := [s0, s1, .lst (B 14 10)]) (by kernel_rfl)).trans ?_)
  refine ((ev_seq (ρ1 := [some (.er "TooGreat" fs ws), some (.loc 2), none]) (S1 := [s0, s1, .lst (B 14 13)]) (by kernel_rfl)).trans ?_)
  refine ((ev_seq (ρ1 := [some (.er "TooGreat" fs ws), some (.loc 2), none]) (S1 := [s0, s1, .lst (B 14 16)]) (by kernel_rfl)).trans ?_)
  refine ((ev_seq (ρ1 := [some (.er "TooGreat" fs ws), some (.loc 2), none]) (S1 := [s0, s1, .lst (B 14 18)]) (by kernel_rfl)).trans ?_)
  refine ((ev_seq (ρ1 := [some (.er "TooGreat" fs ws), some (.loc 2), none]) (S1 := [s0, s1, .lst (B 14 20)]) (by kernel_rfl)).trans ?_)
  exact ret27 14 (by decide) _ s0 s1
theorem c27_15 (n : Nat) (fs : List Str) (ws : List W) (s0 s1 : SO) : callN (n + 1) 27 [.er "TooMany" fs ws] [s0, s1] = .ok (.d (.list [.int (15 : Nat)])) [s0, s1, .lst (B 15 20)] := by
  show toR (b27 (callN n) [some (.er "TooMany" fs ws), none, none] [s0, s1]) = _
  unfold b27
  refine ret_ok ((ev_seq (ρ1 := [some (.er "TooMany" fs ws), some (.loc 2), none]) (S1 := [s0, s1, .lst (B 15 3)]) (by kernel_rfl)).trans ?_)
  refine ((ev_seq (ρ1 := [some (.er "TooMany" fs ws), some (.loc 2), none]) (S1 := [s0, s1, .lst (B 15 6)]) (by kernel_rfl)).trans ?_)
  refine ((ev_seq (ρ1 := [some (.er "TooMany" fs ws), some (.loc 2), none]) (S1 := [s0, s1, .lst (B 15 7)]) (by kernel_rfl)).trans ?_)
  refine ((ev_seq (ρ1 := [some (.er "TooMany" fs ws), some (.loc 2), none]) (S1 := [s0, s1, .lst (B 15 10)]) (by kernel_rfl)).trans ?_)
  refine ((ev_seq (ρ1 := [some (.er "TooMany" fs ws), some (.loc 2), none]) (S1 := [s0, s1, .lst (B 15 13)]) (by kernel_rfl)).trans ?_)
  refine ((ev_seq (ρ1 := [some (.er "TooMany" fs ws), some (.loc 2), none]) (S1 := [s0, s1, .lst (B 15 16)]) (by kernel_rfl)).trans ?_)
  refine ((ev_seq (ρ1 := [some (.er "TooMany" fs ws), some (.loc 2), none]) (S1 := [s0, s1, .lst (B 15 18)]) (by kernel_rfl)).trans ?_)
  refine ((ev_seq (ρ1 := [some (.er "TooMany" fs ws), some (.loc 2), none]) (S1 := [s0, s1, .lst (B 15 20)]) (by kernel_rfl)).trans ?_)
  exact ret27 15 (by decide) _ s0 s1
theorem c27_16 (n : Nat) (fs : List Str) (ws : List W) (s0 s1 : SO) : callN (n + 1) 27 [.er "Twice" fs ws] [s0, s1] = .ok (.d (.list [.int (16 : Nat)])) [s0, s1, .lst (B 16 20)] := by
  show toR (b27 (callN n) [some (.er "Twice" fs ws), none, none] [s0, s1]) = _
  unfold b27
  refine ret_ok ((ev_seq (ρ1 := [some (.er "Twice" fs ws), some (.loc 2), none]) (S1 := [s0, s1, .lst (B 16 3)]) (by kernel_rfl)).trans ?_)
  refine ((ev_seq (ρ1 := [some (.er "Twice" fs ws), some (.loc 2), none]) (S1 := [s0, s1, .lst (B 16 6)]) (by kernel_rfl)).trans ?_)
  refine ((ev_seq (ρ1 := [some (.er "Twice" fs ws), some (.loc 2), none]) (S1 := [s0, s1, .lst (B 16 7)]) (by kernel_rfl)).trans ?_)
  refine ((ev_seq (ρ1 := [some (.er "Twice" fs ws), some (.loc 2), none]) (S1 := [s0, s1, .lst (B 16 10)]) (by kernel_rfl)).trans ?_)
  refine ((ev_seq (ρ1 := [some (.er "Twice" fs ws), some (.loc 2), none]) (S1 := [s0, s1, .lst (B 16 13)]) (by kernel_rfl)).trans ?_)
  refine ((ev_seq (ρ1 := [some (.er "Twice" fs ws), some (.loc 2), none]) (S1 := [s0, s1, .lst (B 16 16)]) (by kernel_rfl)).trans ?_)
  refine ((ev_seq (ρ1 := [some (.er "Twice" fs ws), some (.loc 2), none]) (S1 := [s0, s1, .lst (B 16 18)]) (by kernel_rfl)).trans ?_)
  refine ((ev_seq (ρ1 := [some (.er "Twice" fs ws), some (.loc 2), none]) (S1 := [s0, s1, .lst (B 16 20)]) (by kernel_rfl)).trans ?_)
  exact ret27 16 (by decide) _ s0 s1
theorem c27_17 (n : Nat) (fs : List Str) (ws : List W) (s0 s1 : SO) : callN (n + 1) 27 [.er "Untaken" fs ws] [s0, s1] = .ok (.d (.list [.int (17 : Nat)])) [s0, s1, .lst (B 17 20)] := by
  show toR (b27 (callN n) [some (.er "Untaken" fs ws), none, none] [s0, s1]) = _
  unfold b27
  refine ret_ok ((ev_seq (ρ1 := [some (.er "Untaken" fs ws), some (.loc 2), none]) (S1 := [s0, s1, .lst (B 17 3)]) (by kernel_rfl)).trans ?_)
  refine ((ev_seq (ρ1 := [some (.er "Untaken" fs ws), some (.loc 2), none]) (S1 := [s0, s1, .lst (B 17 6)]) (by kernel_rfl)).trans ?_)
  refine ((ev_seq (ρ1 := [some (.er "Untaken" fs ws), some (.loc 2), none]) (S1 := [s0, s1, .lst (B 17 7)]) (by kernel_rfl)).trans ?_)
  refine ((ev_seq (ρ1 := [some (.er "Untaken" fs ws), some (.loc 2), none]) (S1 := [s0, s1, .lst (B 17 10)]) (by kernel_rfl)).trans ?_)
  refine ((ev_seq (ρ1 := [some (.er "Untaken" fs ws), some (.loc 2), none]) (S1 := [s0, s1, .lst (B 17 13)]) (by kernel_rfl)).trans ?_)
  refine ((ev_seq (ρ1 := [some (.er "Untaken" fs ws), some (.loc 2), none]) (S1 := [s0, s1, .lst (B 17 16)]) (by kernel_rfl)).trans ?_)
  refine ((ev_seq (ρ1 := [some (.er "Untaken" fs ws), some (.loc 2), none]) (S1 := [s0, s1, .lst (B 17 18)]) (by kernel_rfl)).trans ?_)
  refine ((ev_seq (ρ1 := [some (.er "Untaken" fs ws), some (.loc 2), none]) (S1 := [s0, s1, .lst (B 17 20)]) (by kernel_rfl)).trans ?_)
  exact ret27 17 (by decide) _ s0 s1
theorem c27_18 (n : Nat) (fs : List Str) (ws : List W) (s0 s1 : SO) : callN (n + 1) 27 [.er "UseRing" fs ws] [s0, s1] = .ok (.d (.list [.int (18 : Nat)])) [s0, s1, .lst (B 18 20)] := by
  show toR (b27 (callN n) [some (.er "UseRing" fs ws), none, none] [s0, s1]) = _
  unfold b27
  refine ret_ok ((ev_seq (ρ1 := [some (.er "UseRing" fs ws), some (.loc 2), none]) (S1 := [s0, s1, .lst (B 18 3)]) (by kernel_rfl)).trans ?_)
  refine ((ev_seq (ρ1 := [some (.er "UseRing" fs ws), some (.loc 2), none]) (S1 := [s0, s1, .lst (B 18 6)]) (by kernel_rfl)).trans ?_)
  refine ((ev_seq (ρ1 := [some (.er "UseRing" fs ws), some (.loc 2), none]) (S1 := [s0, s1, .lst (B 18 7)]) (by kernel_rfl)).trans ?_)
  refine ((ev_seq (ρ1 := [some (.er "UseRing" fs ws), some (.loc 2), none]) (S1 := [s0, s1, .lst (B 18 10)]) (by kernel_rfl)).trans ?_)
  refine ((ev_seq (ρ1 := [some (.er "UseRing" fs ws), some (.loc 2), none]) (S1 := [s0, s1, .lst (B 18 13)]) (by kernel_rfl)).trans ?_)
  refine ((ev_seq (ρ1 := [some (.er "UseRing" fs ws), some (.loc 2), none]) (S1 := [s0, s1, .lst (B 18 16)]) (by kernel_rfl)).trans ?_)
  refine ((ev_seq (ρ1 := [some (.er "UseRing" fs ws), some (.loc 2), none]) (S1 := [s0, s1, .lst (B 18 18)]) (by kernel_rfl)).trans ?_)
  refine ((ev_seq (ρ1 := [some (.er "UseRing" fs ws), some (.loc 2), none]) (S1 := [s0, s1, .lst (B 18 20)]) (by kernel_rfl)).trans ?_)
  exact ret27 18 (by decide) _ s0 s1
theorem c27_19 (n : Nat) (fs : List Str) (ws : List W) (s0 s1 : SO) : callN (n + 1) 27 [.er "Wrong" fs ws] [s0, s1] = .ok (.d (.list [.int (19 : Nat)])) [s0, s1, .lst (B 19 20)] := by
  show toR (b27 (callN n) [some (.er "Wrong" fs ws), none, none] [s0, s1]) = _
  unfold b27
  refine ret_ok ((ev_seq (ρ1 := [some (.er "Wrong" fs ws), some (.loc 2), none]) (S1 := [s0, s1, .lst (B 19 3)]) (by kernel_rfl)).trans ?_)
  refine ((ev_seq (ρ1 := [some (.er "Wrong" fs ws), some (.loc 2), none]) (S1 := [s0, s1, .lst (B 19 6)]) (by kernel_rfl)).trans ?_)
  refine ((ev_seq (ρ1 := [some (.er "Wrong" fs ws), some (.loc 2), none]) (S1 := [s0, s1, .lst (B 19 7)]) (by kernel_rfl)).trans ?_)
  refine ((ev_seq (ρ1 := [some (.er "Wrong" fs ws), some (.loc 2), none]) (S1 := [s0, s1, .lst (B 19 10)]) (by kernel_rfl)).trans ?_)
  refine ((ev_seq (ρ1 := [some (.er "Wrong" fs ws), some (.loc 2), none]) (S1 := [s0, s1, .lst (B 19 13)]) (by kernel_rfl)).trans ?_)
  refine ((ev_seq (ρ1 := [some (.er "Wrong" fs ws), some (.loc 2), none]) (S1 := [s0, s1, .lst (B 19 16)]) (by kernel_rfl)).trans ?_)
  refine ((ev_seq (ρ1 := [some (.er "Wrong" fs ws), some (.loc 2), none]) (S1 := [s0, s1, .lst (B 19 18)]) (by kernel_rfl)).trans ?_)
  refine ((ev_seq (ρ1 := [some (.er "Wrong" fs ws), some (.loc 2), none]) (S1 := [s0, s1, .lst (B 19 20)]) (by kernel_rfl)).trans ?_)
  exact ret27 19 (by decide) _ s0 s1
theorem c27 (n : Nat) (s0 s1 : SO) : ∀ (k : Nat) (p : Str × List Str) (ws : List W), tbl[k]? = some p → callN (n + 1) 27 [.er p.1 p.2 ws] [s0, s1] = .ok (.d (.list [.int (k : Int)])) [s0, s1, .lst (B k 20)]
  | 0, p, ws, h => by cases h; exact c27_0 n _ ws s0 s1
  | 1, p, ws, h => by cases h; exact c27_1 n _ ws s0 s1
  | 2, p, ws, h => by cases h; exact c27_2 n _ ws s0 s1
  | 3, p, ws, h => by cases h; exact c27_3 n _ ws s0 s1
  | 4, p, ws, h => by cases h; exact c27_4 n _ ws s0 s1
  | 5, p, ws, h => by cases h; exact c27_5 n _ ws s0 s1
  | 6, p, ws, h => by cases h; exact c27_6 n _ ws s0 s1
  | 7, p, ws, h => by cases h; exact c27_7 n _ ws s0 s1
  | 8, p, ws, h => by cases h; exact c27_8 n _ ws s0 s1
  | 9, p, ws, h => by cases h; exact c27_9 n _ ws s0 s1
  | 10, p, ws, h => by cases h; exact c27_10 n _ ws s0 s1
  | 11, p, ws, h => by cases h; exact c27_11 n _ ws s0 s1
  | 12, p, ws, h => by cases h; exact c27_12 n _ ws s0 s1
  | 13, p, ws, h => by cases h; exact c27_13 n _ ws s0 s1
  | 14, p, ws, h => by cases h; exact c27_14 n _ ws s0 s1
  | 15, p, ws, h => by cases h; exact c27_15 n _ ws s0 s1
  | 16, p, ws, h => by cases h; exact c27_16 n _ ws s0 s1
  | 17, p, ws, h => by cases h; exact c27_17 n _ ws s0 s1
  | 18, p, ws, h => by cases h; exact c27_18 n _ ws s0 s1
  | 19, p, ws, h => by cases h; exact c27_19 n _ ws s0 s1
  | n + 20, p, ws, h => by
    have : (n + 20) < tbl.length := (List.getElem?_eq_some_iff.mp h).1
    have e : tbl.length = 20 := rfl
    omega
end Q0
end VI
set_option Elab.async false
set_option linter.all false
set_option maxRecDepth 100000
namespace VI
open PySem PySem.Spec PyProof.Rows L2
namespace Q0

/-! errors keep what they are handed -/
theorem frz_rows_d (x y : PyData) (s0 s1 : SO) : frz 2 (.ok (.lw (rowsW (.d x) (.d y))) [s0, s1, .lw ((rowsW (.d x) (.d y)).take 19)]) = .ok (.lw (rowsW (.d x) (.d y))) [s0, s1] := by kernel_rfl
theorem frz_rows_l (y : PyData) (s0 s1 : SO) : frz 2 (.ok (.lw (rowsW (.loc 1) (.d y))) [s0, s1, .lw ((rowsW (.loc 1) (.d y)).take 19)]) = .ok (.lw (rowsW (.loc 1) (.d y))) [s0, s1] := by kernel_rfl
theorem call28 (n : Nat) (ws : List W) (S : Store) : callN (n + 3) 28 ws S = if 2 ≤ n + 2 then runB 18 (b28 (callN (n + 2))) ws S else .bad := rfl
theorem k_rows {n : Nat} {a b : W} {s0 s1 : SO} {ρ : Rho} {fa : FA} (ea : fa ρ [s0, s1] = .ok [a, b] [s0, s1]) (er : ∀ call, runB 18 (b28 call) [a, b] [s0, s1] = .ok (.lw (rowsW a b)) [s0, s1, .lw ((rowsW a b).take 19)]) (ef : frz 2 (.ok (.lw (rowsW a b)) [s0, s1, .lw ((rowsW a b).take 19)]) = .ok (.lw (rowsW a b)) [s0, s1]) :
    fCall 2 (callN (n + 3) 28) fa ρ [s0, s1] = .ok (.lw (rowsW a b)) [s0, s1] := by
  unfold fCall
  have e : callN (n + 3) 28 [a, b] [s0, s1] = .ok (.lw (rowsW a b)) [s0, s1, .lw ((rowsW a b).take 19)] := by
    rw [call28, if_pos (by omega)]
    exact er (callN (n + 2))
  rw [ea, R_ok, if_pos (by rfl), e]
  exact ef
theorem fcall_cut {n : Nat} {g : List W → Store → R W} {fa : FA} {ρ : Rho} {S S' : Store} {ws : List W} {x : PyData} (ea : fa ρ S = .ok ws S) (eg : g ws S = .ok (.d x) S') (hz : S'.take S.length = S) (hn : ws.length = n) : fCall n g fa ρ S = .ok (.d x) S := by
  unfold fCall
  rw [ea, R_ok, if_pos hn, eg]
  show R.ok _ (S'.take S.length) = _
  rw [hz]
theorem int_sh : ∀ k : Nat, k < 20 → SeqAt.shaped (.list [.int (k : Int)]) = true := by decide +kernel
theorem ne_self {d : PyData} {S : Store} (h : SeqAt.shaped (.list [d]) = true) : gNe (.d (.list [d])) (.d (.list [d])) S = some (bt false, S) := by
  have : gNeD (.d (.list [d])) (.d (.list [d])) S = some (bt false, S) := by
    unfold gNeD
    simp only [asD]
    rw [if_pos ⟨h, h⟩, SeqAt.eqv_refl _ (SeqAt.canLay_of_shaped h)]
    rfl
  have e2 : gNeS (.d (.list [d])) (.d (.list [d])) S = none := rfl
  unfold gNe
  rw [e2, this]
theorem tbl_ok : tbl.all (fun p => L_SwornError.lookup p.1 == some true && (L_ValueError.lookup p.1 == some true && decide (p.2.length ≤ 2))) = true := by decide +kernel
theorem tbl_at {k : Nat} {p : Str × List Str} (h : tbl[k]? = some p) : L_SwornError.lookup p.1 = some true ∧ L_ValueError.lookup p.1 = some true ∧ p.2.length ≤ 2 := by
  obtain ⟨h1, h⟩ := He.ba (List.all_eq_true.mp tbl_ok p (List.mem_of_getElem? h))
  obtain ⟨h2, h3⟩ := He.ba h
  exact ⟨eq_of_beq h1, eq_of_beq h2, of_decide_eq_true h3⟩
theorem is_at {L : List (Str × Bool)} {nm : Str} {fs : List Str} {ws : List W} {ρ : Rho} {S : Store} {i : Nat} (h : L.lookup nm = some true) (e : ρ[i]? = some (some (.er nm fs ws))) : fNotT (fTru (f1 (gIsE L) (fVar i))) ρ S = .ok false S := by
  have : f1 (gIsE L) (fVar i) ρ S = .ok (bt true) S := by
    unfold f1
    rw [ev_var e, R_ok]
    show lift ((L.lookup nm).map fun b => (bt b, S)) = _
    rw [h]
    rfl
  unfold fNotT fTru
  rw [this, R_ok]
  rfl
theorem slice_d (x y : PyData) (S : Store) (r2 r3 : Option W) : ∀ m, m ≤ 2 → fSl gSlW (fL gLstW (fAc (fVar 0) (fAc (fVar 1) fA0))) fNoPart (fPart (fL gLenW (fAc (fVar 4) fA0))) [some (.d x), some (.d y), r2, r3, some (mkL ([W.d x, W.d y].take m))] S = .ok (.d (.list ([x, y].take m))) S
  | 0, _ => rfl
  | 1, _ => rfl
  | 2, _ => rfl
  | n + 3, h => by omega
theorem mk_take (x y : PyData) : ∀ m, m ≤ 2 → mkL ([W.d x, W.d y].take m) = .d (.list ([x, y].take m))
  | 0, _ => rfl
  | 1, _ => rfl
  | 2, _ => rfl
  | n + 3, h => by omega
theorem x3 {x y : PyData} (h0 : xOk [] = true) (h1 : xOk [x] = true) (h2 : xOk [x, y] = true) : ∀ m, m ≤ 2 → xOk ([x, y].take m) = true
  | 0, _ => h0
  | 1, _ => h1
  | 2, _ => h2
  | n + 3, h => by omega
abbrev body29 (call : Calls) : FS := (fSeq (fIf (fOrT (fTest (f2 gNe (fCall 1 (call 27) (fAc (fVar 3) fA0)) (fL gLstW (fAc (fVar 2) fA0)))) (fOrT (fNotT (fTru (f1 (gIsE L_SwornError) (fVar 3)))) (fNotT (fTru (f1 (gIsE L_ValueError) (fVar 3)))))) (fRet (fC (.bool false))) fNext) (fIf (fNotT (fTru (fCall 2 (call 12) (fAc (fVar 4) (fAc (fSl gSlW (fL gLstW (fAc (fVar 0) (fAc (fVar 1) fA0))) fNoPart (fPart (fL gLenW (fAc (fVar 4) fA0)))) fA0))))) (fRet (fC (.bool false))) fNext))
theorem body_ok (n : Nat) {x y : PyData} {s0 s1 : SO} {k : Nat} {p : Str × List Str} (hp : tbl[k]? = some p) (ok : ∀ m, m ≤ 2 → xOk ([x, y].take m) = true) :
    body29 (callN (n + 1)) [some (.d x), some (.d y), some (.d (.int (k : Int))), some (.er p.1 p.2 ([W.d x, W.d y].take p.2.length)), some (mkL ([W.d x, W.d y].take p.2.length))] [s0, s1] = .next [some (.d x), some (.d y), some (.d (.int (k : Int))), some (.er p.1 p.2 ([W.d x, W.d y].take p.2.length)), some (mkL ([W.d x, W.d y].take p.2.length))] [s0, s1] := by
  obtain ⟨h1, h2, h3⟩ := tbl_at hp
  have hk : k < 20 := (List.getElem?_eq_some_iff.mp hp).1
  generalize hρ : ([some (.d x), some (.d y), some (.d (.int (k : Int))), some (.er p.1 p.2 ([W.d x, W.d y].take p.2.length)), some (mkL ([W.d x, W.d y].take p.2.length))] : Rho) = ρ
  have v2 : ρ[2]? = some (some (.d (.int (k : Int)))) := by rw [← hρ]; rfl
  have v3 : ρ[3]? = some (some (.er p.1 p.2 ([W.d x, W.d y].take p.2.length))) := by rw [← hρ]; rfl
  have v4 : ρ[4]? = some (some (mkL ([W.d x, W.d y].take p.2.length))) := by rw [← hρ]; rfl
  have t1 : fTest (f2 gNe (fCall 1 (callN (n + 1) 27) (fAc (fVar 3) fA0)) (fL gLstW (fAc (fVar 2) fA0))) ρ [s0, s1] = .ok false [s0, s1] := by
    have e1 : f2 gNe (fCall 1 (callN (n + 1) 27) (fAc (fVar 3) fA0)) (fL gLstW (fAc (fVar 2) fA0)) ρ [s0, s1] = .ok (bt false) [s0, s1] :=
      ev_f2 (fcall_cut (ws := [_]) (ev_one (ev_var v3)) (c27 n s0 s1 k p _ hp) rfl rfl) (ev_L (z := .d (.list [.int (k : Int)])) (ev_one (ev_var v2)) rfl) (ne_self (int_sh k hk))
    unfold fTest
    rw [e1, R_ok]
    rfl
  have t2 : fOrT (fTest (f2 gNe (fCall 1 (callN (n + 1) 27) (fAc (fVar 3) fA0)) (fL gLstW (fAc (fVar 2) fA0)))) (fOrT (fNotT (fTru (f1 (gIsE L_SwornError) (fVar 3)))) (fNotT (fTru (f1 (gIsE L_ValueError) (fVar 3))))) ρ [s0, s1] = .ok false [s0, s1] := by
    unfold fOrT
    rw [t1, R_ok, if_neg (by decide), is_at h1 v3, R_ok, if_neg (by decide), is_at h2 v3]
  have sl : fSl gSlW (fL gLstW (fAc (fVar 0) (fAc (fVar 1) fA0))) fNoPart (fPart (fL gLenW (fAc (fVar 4) fA0))) ρ [s0, s1] = .ok (.d (.list ([x, y].take p.2.length))) [s0, s1] := by
    rw [← hρ]
    exact slice_d x y _ _ _ _ h3
  have t3 : fNotT (fTru (fCall 2 (callN (n + 1) 12) (fAc (fVar 4) (fAc (fSl gSlW (fL gLstW (fAc (fVar 0) (fAc (fVar 1) fA0))) fNoPart (fPart (fL gLenW (fAc (fVar 4) fA0)))) fA0)))) ρ [s0, s1] = .ok false [s0, s1] := by
    have al : callN (n + 1) 12 [mkL ([W.d x, W.d y].take p.2.length), .d (.list ([x, y].take p.2.length))] [s0, s1] = .ok (bt true) [s0, s1] := by
      rw [mk_take x y _ h3]
      exact x_alike n (by rw [asD]) (by rw [asD]) (ok _ h3)
    have cl := fcall_cut (n := 2) (ws := [_, _]) (ev_ac (ev_var v4) (ev_one sl)) al rfl rfl
    unfold fNotT fTru
    rw [cl, R_ok]
    rfl
  unfold body29
  refine (ev_seq (ρ1 := ρ) (S1 := [s0, s1]) ?_).trans ?_
  · unfold fIf
    rw [t2]
    rfl
  · unfold fIf
    rw [t3]
    rfl
theorem loop29 (n : Nat) {x y : PyData} {s0 s1 : SO} (ok : ∀ m, m ≤ 2 → xOk ([x, y].take m) = true) : ∀ (ps : List (Str × List Str)) (k : Nat), tbl.drop k = ps → ∀ r2 r3 r4, ∃ ρ',
    forL (fun _ => True) (gtTup 2 (gtCons (gtName 2) (gtCons (gtTup 2 (gtCons (gtName 3) (gtCons (gtName 4) gtNil))) gtNil))) (body29 (callN (n + 1))) (enumW k (ps.map (rowW (.d x) (.d y)))) [some (.d x), some (.d y), r2, r3, r4] [s0, s1] = .next ρ' [s0, s1]
  | [], k, _, r2, r3, r4 => ⟨_, by rw [List.map_nil, enumW, forL, if_pos trivial]⟩
  | p :: ps, k, e, r2, r3, r4 => by
    have hk : tbl[k]? = some p := by
      have : (tbl.drop k)[0]? = some p := by rw [e]; rfl
      rw [List.getElem?_drop] at this
      exact this
    have e2 : tbl.drop (k + 1) = ps := by
      have : (tbl.drop k).drop 1 = ps := by rw [e]; rfl
      rw [List.drop_drop] at this
      exact this
    obtain ⟨ρ', h⟩ := loop29 n (s0 := s0) (s1 := s1) ok ps (k + 1) e2 (some (.d (.int (k : Int)))) (some (.er p.1 p.2 ([W.d x, W.d y].take p.2.length))) (some (mkL ([W.d x, W.d y].take p.2.length)))
    refine ⟨ρ', ?_⟩
    rw [List.map_cons, enumW, forL, if_pos trivial]
    have g : gtTup 2 (gtCons (gtName 2) (gtCons (gtTup 2 (gtCons (gtName 3) (gtCons (gtName 4) gtNil))) gtNil)) (mkT [.d (.int (k : Int)), rowW (.d x) (.d y) p]) [some (.d x), some (.d y), r2, r3, r4] = some [some (.d x), some (.d y), some (.d (.int (k : Int))), some (.er p.1 p.2 ([W.d x, W.d y].take p.2.length)), some (mkL ([W.d x, W.d y].take p.2.length))] := rfl
    rw [g]
    dsimp only
    rw [body_ok n hk ok]
    exact h
theorem errors_right (n : Nat) {x y : PyData} {s0 s1 : SO} (ok : ∀ m, m ≤ 2 → xOk ([x, y].take m) = true) : callN (n + 4) 29 [.d x, .d y] [s0, s1] = .ok (bt true) [s0, s1] := by
  show toR (b29 (callN (n + 3)) [some (.d x), some (.d y), none, none, none] [s0, s1]) = _
  obtain ⟨ρ', h⟩ := loop29 (n + 2) (s0 := s0) (s1 := s1) ok tbl 0 rfl none none none
  have it : fRng enumK (fAc (fCall 2 (callN (n + 3) 28) (fAc (fVar 0) (fAc (fVar 1) fA0))) fA0) [some (.d x), some (.d y), none, none, none] [s0, s1] = .ok ⟨enumW 0 (rowsW (.d x) (.d y)), fun _ => True⟩ [s0, s1] := by
    have := k_rows (n := n) (ρ := [some (.d x), some (.d y), none, none, none]) (fa := fAc (fVar 0) (fAc (fVar 1) fA0)) (by rfl) (fun call => rows_d call x y s0 s1) (frz_rows_d x y s0 s1)
    unfold fRng
    rw [ev_one this, R_ok]
    rfl
  unfold b29
  refine ret_ok ((ev_seq (ρ1 := ρ') (S1 := [s0, s1]) ?_).trans rfl)
  unfold fFor
  rw [it]
  exact h
end Q0
end VI
set_option Elab.async false
set_option linter.all false
set_option maxRecDepth 100000
namespace VI
open PySem PySem.Spec PyProof.Rows L2
namespace Q0

/-! the law's first loop -/
abbrev grW (v : PyData) : SO := .lst [.int 0, v]
theorem slice_l (v : PyData) (s0 : SO) (sc r4 r5 r7 r8 r9 r10 r11 : Option W) : ∀ m, m ≤ 2 → fSl gSlW (fL gLstW (fAc (fVar 3) (fAc (fVar 2) fA0))) fNoPart (fPart (fL gLenW (fAc (fVar 6) fA0))) [sc, some (.loc 0), some (.d v), some (.loc 1), r4, r5, some (mkL ([W.loc 1, W.d v].take m)), r7, r8, r9, r10, r11] [s0, grW v] = .ok (mkL ([W.loc 1, W.d v].take m)) [s0, grW v]
  | 0, _ => rfl
  | 1, _ => rfl
  | 2, _ => rfl
  | n + 3, h => by omega
theorem asd_l (v : PyData) (s0 : SO) : ∀ m, m ≤ 2 → asD (mkL ([W.loc 1, W.d v].take m)) [s0, grW v] = some (.list ([PyData.list [.int 0, v], v].take m))
  | 0, _ => rfl
  | 1, _ => rfl
  | 2, _ => rfl
  | n + 3, h => by omega
abbrev bodyR (call : Calls) : FS := (fIf (fNotT (fTru (fCall 2 (call 12) (fAc (fVar 6) (fAc (fSl gSlW (fL gLstW (fAc (fVar 3) (fAc (fVar 2) fA0))) fNoPart (fPart (fL gLenW (fAc (fVar 6) fA0)))) fA0))))) (fRet (fC (.bool false))) fNext)
theorem bodyR_ok (n : Nat) {v : PyData} {s0 : SO} {sc r4 r5 r7 r8 r9 r10 r11 : Option W} {m : Nat} (hm : m ≤ 2) (ok : ∀ m, m ≤ 2 → xOk ([PyData.list [.int 0, v], v].take m) = true) :
    bodyR (callN (n + 1)) [sc, some (.loc 0), some (.d v), some (.loc 1), r4, r5, some (mkL ([W.loc 1, W.d v].take m)), r7, r8, r9, r10, r11] [s0, grW v] = .next [sc, some (.loc 0), some (.d v), some (.loc 1), r4, r5, some (mkL ([W.loc 1, W.d v].take m)), r7, r8, r9, r10, r11] [s0, grW v] := by
  have sl := slice_l v s0 sc r4 r5 r7 r8 r9 r10 r11 m hm
  have al : callN (n + 1) 12 [mkL ([W.loc 1, W.d v].take m), mkL ([W.loc 1, W.d v].take m)] [s0, grW v] = .ok (bt true) [s0, grW v] := x_alike n (asd_l v s0 m hm) (asd_l v s0 m hm) (ok m hm)
  have cl := fcall_cut (n := 2) (ws := [_, _]) (ev_ac (ev_var (i := 6) rfl) (ev_one sl)) al rfl rfl
  unfold bodyR fIf fNotT fTru
  rw [cl, R_ok]
  rfl
theorem loopR (n : Nat) {v : PyData} {s0 : SO} {sc r4 r7 r8 r9 r10 r11 : Option W} (ok : ∀ m, m ≤ 2 → xOk ([PyData.list [.int 0, v], v].take m) = true) : ∀ (ps : List (Str × List Str)), (∀ p ∈ ps, p.2.length ≤ 2) → ∀ r5 r6, ∃ y5 y6,
    forL (fun _ => True) (gtTup 2 (gtCons (gtName 5) (gtCons (gtName 6) gtNil))) (bodyR (callN (n + 1))) (ps.map (rowW (.loc 1) (.d v))) [sc, some (.loc 0), some (.d v), some (.loc 1), r4, r5, r6, r7, r8, r9, r10, r11] [s0, grW v] = .next [sc, some (.loc 0), some (.d v), some (.loc 1), r4, y5, y6, r7, r8, r9, r10, r11] [s0, grW v]
  | [], _, r5, r6 => ⟨r5, r6, by rw [List.map_nil, forL, if_pos trivial]⟩
  | p :: ps, h, r5, r6 => by
    obtain ⟨y5, y6, e⟩ := loopR n (r4 := r4) (s0 := s0) (sc := sc) (r7 := r7) (r8 := r8) (r9 := r9) (r10 := r10) (r11 := r11) ok ps (fun q m => h q (List.mem_cons_of_mem _ m)) (some (.er p.1 p.2 ([W.loc 1, W.d v].take p.2.length))) (some (mkL ([W.loc 1, W.d v].take p.2.length)))
    refine ⟨y5, y6, ?_⟩
    rw [List.map_cons, forL, if_pos trivial]
    have g : gtTup 2 (gtCons (gtName 5) (gtCons (gtName 6) gtNil)) (rowW (.loc 1) (.d v) p) [sc, some (.loc 0), some (.d v), some (.loc 1), r4, r5, r6, r7, r8, r9, r10, r11] = some [sc, some (.loc 0), some (.d v), some (.loc 1), r4, some (.er p.1 p.2 ([W.loc 1, W.d v].take p.2.length)), some (mkL ([W.loc 1, W.d v].take p.2.length)), r7, r8, r9, r10, r11] := rfl
    rw [g]
    dsimp only
    rw [bodyR_ok n (h p List.mem_cons_self) ok]
    exact e
/-! a turn -/
theorem things (n : Nat) {S : Store} : ∀ (ds : List PyData) (ρ : Rho), ρ.length = 12 → (∀ d ∈ ds, namedOk d = true) → ∃ ρ', ρ' = ρ.set 11 (ρ'[11]?.join) ∧ ρ'.length = 12 ∧
    forL (fun _ => True) (gtName 11) (fIf (fNotT (fTru (fCall 1 (callN (n + 5) 31) (fAc (fVar 11) fA0)))) (fRet (fC (.bool false))) fNext) (ds.map W.d) ρ S = .next ρ' S
  | [], ρ, h, _ => by
    refine ⟨ρ, ?_, h, by rw [List.map_nil, forL, if_pos trivial]⟩
    match ρ, h with
    | [_, _, _, _, _, _, _, _, _, _, _, _], _ => rfl
  | d :: ds, ρ, h, a => by
    obtain ⟨ρ', e1, e2, e3⟩ := things n (S := S) ds (ρ.set 11 (some (.d d))) (by rw [List.length_set]; exact h) fun x m => a x (List.mem_cons_of_mem _ m)
    refine ⟨ρ', by rw [List.set_set] at e1; exact e1, e2, ?_⟩
    rw [List.map_cons, forL, if_pos trivial]
    have cl : fCall 1 (callN (n + 5) 31) (fAc (fVar 11) fA0) (ρ.set 11 (some (.d d))) S = .ok (bt true) S := fcall_at (ws := [.d d]) (ev_one (ev_var (List.getElem?_set_self (by omega)))) (named_any n (a d List.mem_cons_self)) rfl rfl
    have b : fIf (fNotT (fTru (fCall 1 (callN (n + 5) 31) (fAc (fVar 11) fA0)))) (fRet (fC (.bool false))) fNext (ρ.set 11 (some (.d d))) S = .next (ρ.set 11 (some (.d d))) S := by
      unfold fIf fNotT fTru
      rw [cl, R_ok]
      rfl
    simp only [gtName, b]
    exact e3
def nums : List PyData := [.int 2147483647, .int 2147483648, .int (-2147483649), .int (10 ^ 39), .int (-10 ^ 39), .int 4294967296, .int 0, .int (-1)]
theorem nums_int : nums.all (fun d => match d with | .int _ => true | _ => false) = true := by decide +kernel
theorem num_at {x : PyData} (h : x ∈ nums) : ∃ i, x = .int i := by
  have := List.all_eq_true.mp nums_int x h
  cases x with
  | int i => exact ⟨i, rfl⟩
  | _ => cases this
def wordB (x : PyData) : Bool := match x with
  | .str z => okc z.cps.toList && decide (z.cps.toList.length ≤ 20)
  | _ => false
theorem bars_ok : barD.all wordB = true := by decide +kernel
theorem bar_at {x : PyData} (h : x ∈ barD) : ∃ a : List Nat, x = .str (tx a) ∧ okc a = true ∧ a.length ≤ 20 := by
  have q := List.all_eq_true.mp bars_ok x h
  cases x with
  | str z =>
    obtain ⟨q1, q2⟩ := He.ba q
    exact ⟨z.cps.toList, by rw [← tx_list], q1, of_decide_eq_true q2⟩
  | _ => cases q
noncomputable abbrev turnB (call : Calls) : FS := (fSeq (fAsg (fCall 2 (call 11) (fAc (fVar 1) (fAc (fL gLstW (fAc (fC (.int 2147483647)) (fAc (fC (.int 2147483648)) (fAc (f1 gNeg (fC (.int 2147483649))) (fAc (f2 gPow (fC (.int 10)) (fC (.int 39))) (fAc (f1 gNeg (f2 gPow (fC (.int 10)) (fC (.int 39)))) (fAc (fC (.int 4294967296)) (fAc (fC (.int 0)) (fAc (f1 gNeg (fC (.int 1))) fA0))))))))) fA0))) (gtName 8)) (fSeq (fAsg (f2 gSub (f2 gAdd (fVar 8) (fCall 2 (call 10) (fAc (fVar 1) (fAc (fC (.int 9)) fA0)))) (fC (.int 4))) (gtName 8)) (fSeq (fIf (fNotT (fTru (fCall 2 (call 12) (fAc (fCall 1 (call 8) (fAc (fVar 8) fA0)) (fAc (fCall 1 (call 14) (fAc (fVar 8) fA0)) fA0))))) (fRet (fC (.bool false))) fNext) (fSeq (fAsg (fCall 2 (call 11) (fAc (fVar 1) (fAc (fCall 0 (call 15) fA0) fA0))) (gtName 9)) (fSeq (fAsg (fL gLstW (fAc (fVar 9) (fAc (f2 gAdd (fVar 9) (fC (.str "s"))) (fAc (f2 gAdd (fC (.str "M.")) (fVar 9)) (fAc (f2 gAdd (fVar 9) (fC (.str ".A"))) fA0))))) (gtName 10)) (fFor (fItS (f2 gAdd (fL gLstW (fAc (fVar 8) (fAc (fCall 1 (call 30) (fAc (fVar 1) fA0)) (fAc (fCall 1 (call 26) (fAc (fVar 1) fA0)) (fAc (fC (.dict [(.none, .none)])) fA0))))) (fVar 10))) (gtName 11) (fIf (fNotT (fTru (fCall 1 (call 31) (fAc (fVar 11) fA0)))) (fRet (fC (.bool false))) fNext)))))))
theorem turn_ok (n : Nat) {S : Store} {N : Nat} {sc r2 r3 r4 r5 r6 r7 r8 r9 r10 r11 : Option W} (hb : BG S 0 N) (hN : N + 20 < 2 ^ 58) (hl : S.length = 2) :
    ∃ y8 y9 y10 y11 S', turnB (callN (n + 5)) [sc, some (.loc 0), r2, r3, r4, r5, r6, r7, r8, r9, r10, r11] S = .next [sc, some (.loc 0), r2, r3, r4, r5, r6, r7, y8, y9, y10, y11] S' ∧ S'.length = 2 ∧ BG S' 0 (N + 20) := by
  obtain ⟨x, S1, mx, e1, z1, b1, o1⟩ := k_some (n + 3) (ds := nums) hb (by omega) (by decide)
  obtain ⟨i, rfl⟩ := num_at mx
  obtain ⟨t, S2, e2, ht, z2, b2, o2⟩ := k_take (n + 4) (m := 9) b1 (by omega) (by decide)
  obtain ⟨y, S3, my, e3, z3, b3, o3⟩ := k_some (n + 3) (ds := barD) b2 (by omega) (by decide)
  obtain ⟨a, rfl, ka, la⟩ := bar_at my
  obtain ⟨p, S4, e4, ⟨kp, lp⟩, z4, b4, o4⟩ := k_near (n + 2) b3 (by omega)
  obtain ⟨q, S5, mq, e5, z5, b5, o5⟩ := k_odd (n + 2) b4 (by omega)
  let w10 : List PyData := [.str (tx a), .str (tx (a ++ [115])), .str (tx ([77, 46] ++ a)), .str (tx (a ++ [46, 65]))]
  let ds : List PyData := [.int (i + t - 4), .str (tx p), q, .dict [(.none, .none)]] ++ w10
  have cs : okc [115] = true ∧ okc [77, 46] = true ∧ okc [46, 65] = true := by decide
  have nm : ∀ l : List Nat, okc l = true → l.length ≤ 1000 → namedOk (.str (tx l)) = true := fun l h1 h2 => by
    show (okc l && decide (l.length ≤ 1000)) = true
    rw [h1, decide_eq_true h2]
    rfl
  have hds : ∀ d ∈ ds, namedOk d = true := by
    intro d m
    simp only [ds, w10, List.cons_append, List.nil_append, List.mem_cons, List.not_mem_nil, or_false] at m
    rcases m with rfl | rfl | rfl | rfl | rfl | rfl | rfl | rfl
    · rfl
    · exact nm p kp lp
    · exact odd_named mq
    · rfl
    · exact nm a ka (by omega)
    · exact nm _ (okc_app ka cs.1) (by simp only [List.length_append, List.length_cons, List.length_nil]; omega)
    · exact nm _ (okc_app cs.2.1 ka) (by simp only [List.length_append, List.length_cons, List.length_nil]; omega)
    · exact nm _ (okc_app ka cs.2.2) (by simp only [List.length_append, List.length_cons, List.length_nil]; omega)
  obtain ⟨ρ', p1, p2, p3⟩ := things n (S := S5) ds [sc, some (.loc 0), r2, r3, r4, r5, r6, r7, some (.d (.int (i + t - 4))), some (st a), some (.d (.list w10)), r11] rfl hds
  refine ⟨some (.d (.int (i + t - 4))), some (st a), some (.d (.list w10)), ρ'[11]?.join, S5, ?_, by omega, b5.mono (by omega)⟩
  unfold turnB
  refine (ev_seq (ρ1 := [sc, some (.loc 0), r2, r3, r4, r5, r6, r7, some (.d (.int i)), r9, r10, r11]) (S1 := S1) (ev_asg (i := 8) (fcall_at (ws := [.loc 0, .d (.list nums)]) (ev_ac (ev_var rfl) (ev_one (ev_L (ws := nums.map W.d) (by rfl) rfl))) e1 z1 rfl))).trans ?_
  refine (ev_seq (ρ1 := [sc, some (.loc 0), r2, r3, r4, r5, r6, r7, some (.d (.int (i + t - 4))), r9, r10, r11]) (S1 := S2) (ev_asg (i := 8) (ev_f2 (ev_f2 (ev_var rfl) (fcall_at (ws := [.loc 0, .d (.int 9)]) (ev_ac (ev_var rfl) (ev_one rfl)) e2 z2 rfl) rfl) rfl rfl))).trans ?_
  have al : fNotT (fTru (fCall 2 (callN (n + 5) 12) (fAc (fCall 1 (callN (n + 5) 8) (fAc (fVar 8) fA0)) (fAc (fCall 1 (callN (n + 5) 14) (fAc (fVar 8) fA0)) fA0)))) [sc, some (.loc 0), r2, r3, r4, r5, r6, r7, some (.d (.int (i + t - 4))), r9, r10, r11] S2 = .ok false S2 := by
    have c8 := fcall_at (n := 1) (fa := fAc (fVar 8) fA0) (ρ := [sc, some (.loc 0), r2, r3, r4, r5, r6, r7, some (.d (.int (i + t - 4))), r9, r10, r11]) (S := S2) (ws := [.d (.int (i + t - 4))]) (ev_one (ev_var rfl)) (k_wrapped (n + 4)) rfl rfl
    have c14 := fcall_at (n := 1) (fa := fAc (fVar 8) fA0) (ρ := [sc, some (.loc 0), r2, r3, r4, r5, r6, r7, some (.d (.int (i + t - 4))), r9, r10, r11]) (S := S2) (ws := [.d (.int (i + t - 4))]) (ev_one (ev_var rfl)) (k_lwrapped (n + 4)) rfl rfl
    have cl := fcall_at (n := 2) (ws := [_, _]) (ev_ac c8 (ev_one c14)) (k_alike (n + 4) (d := .int (wrp (i + t - 4))) (by rw [asD]) (by rw [asD]) (wrp_fine _)) rfl rfl
    unfold fNotT fTru
    rw [cl, R_ok]
    rfl
  refine (ev_seq (ρ1 := [sc, some (.loc 0), r2, r3, r4, r5, r6, r7, some (.d (.int (i + t - 4))), r9, r10, r11]) (S1 := S2) (by unfold fIf; rw [al]; rfl)).trans ?_
  refine (ev_seq (ρ1 := [sc, some (.loc 0), r2, r3, r4, r5, r6, r7, some (.d (.int (i + t - 4))), some (st a), r10, r11]) (S1 := S3) (ev_asg (i := 9) (fcall_at (ws := [.loc 0, .d (.list barD)]) (ev_ac (ev_var rfl) (ev_one (fcall_at (ws := []) rfl (k_barred (n + 4)) rfl rfl))) e3 z3 rfl))).trans ?_
  have cat : ∀ {x y : List Nat}, x.length ≤ 100 → y.length ≤ 100 → gAdd (st x) (st y) S3 = some (st (x ++ y), S3) := fun h1 h2 => g_cat (by show _ ≤ 16777216; omega)
  have v9 : fVar 9 [sc, some (.loc 0), r2, r3, r4, r5, r6, r7, some (.d (.int (i + t - 4))), some (st a), r10, r11] S3 = .ok (st a) S3 := rfl
  refine (ev_seq (ρ1 := [sc, some (.loc 0), r2, r3, r4, r5, r6, r7, some (.d (.int (i + t - 4))), some (st a), some (.d (.list w10)), r11]) (S1 := S3) (ev_asg (i := 10) (ev_L (ws := w10.map W.d) (ev_ac v9 (ev_ac (ev_f2 v9 (show _ = R.ok (st [115]) S3 from rfl) (cat (by omega) (by decide))) (ev_ac (ev_f2 (show _ = R.ok (st [77, 46]) S3 from rfl) v9 (cat (by decide) (by omega))) (ev_one (ev_f2 v9 (show _ = R.ok (st [46, 65]) S3 from rfl) (cat (by omega) (by decide))))))) rfl))).trans ?_
  have it : fItS (f2 gAdd (fL gLstW (fAc (fVar 8) (fAc (fCall 1 (callN (n + 5) 30) (fAc (fVar 1) fA0)) (fAc (fCall 1 (callN (n + 5) 26) (fAc (fVar 1) fA0)) (fAc (fC (.dict [(.none, .none)])) fA0))))) (fVar 10)) [sc, some (.loc 0), r2, r3, r4, r5, r6, r7, some (.d (.int (i + t - 4))), some (st a), some (.d (.list w10)), r11] S3 = .ok ⟨ds.map W.d, fun _ => True⟩ S5 := by
    have e : f2 gAdd (fL gLstW (fAc (fVar 8) (fAc (fCall 1 (callN (n + 5) 30) (fAc (fVar 1) fA0)) (fAc (fCall 1 (callN (n + 5) 26) (fAc (fVar 1) fA0)) (fAc (fC (.dict [(.none, .none)])) fA0))))) (fVar 10) [sc, some (.loc 0), r2, r3, r4, r5, r6, r7, some (.d (.int (i + t - 4))), some (st a), some (.d (.list w10)), r11] S3 = .ok (.d (.list ds)) S5 :=
      ev_f2 (ev_L (z := .d (.list [.int (i + t - 4), .str (tx p), q, .dict [(.none, .none)]])) (ev_ac (ev_var rfl) (ev_ac (fcall_at (ws := [.loc 0]) (ev_one (ev_var rfl)) e4 z4 rfl) (ev_ac (fcall_at (ws := [.loc 0]) (ev_one (ev_var rfl)) e5 z5 rfl) (ev_one rfl)))) rfl) (ev_var rfl) rfl
    unfold fItS
    rw [e]
    rfl
  unfold fFor
  rw [it]
  refine (p3.trans ?_)
  rw [p1]
  rfl
end Q0
end VI
set_option Elab.async false
set_option linter.all false
set_option maxRecDepth 100000
namespace VI
open PySem PySem.Spec PyProof.Rows L2
namespace Q0

theorem not_true {a : FE} {ρ : Rho} {S : Store} (h : a ρ S = .ok (bt true) S) : fNotT (fTru a) ρ S = .ok false S := by
  unfold fNotT fTru
  rw [h, R_ok]
  rfl
theorem call32 (n : Nat) (ws : List W) (S : Store) : callN (n + 3) 32 ws S = if 2 ≤ n + 2 then runB 12 (b32 (callN (n + 2))) ws S else .bad := rfl
theorem k_bag (n : Nat) {ns : List Int} (h : ns.length ≤ 63) : ∃ b : Bag, callN (n + 1) 9 [scriptW ns] [] = .ok (.loc 0) [b.so] ∧ b.Fit ∧ b.b2 = 0 := bag_run h
theorem law_ok (n : Nat) {ns : List Int} (h : ns.length ≤ 63) : ∃ S', callN (n + 9) 32 [scriptW ns] [] = .ok (bt true) S' := by
  obtain ⟨b, eb, fb, zb⟩ := k_bag (n + 7) h
  have hb : BG [b.so] 0 0 := ⟨b, rfl, fb, by omega⟩
  obtain ⟨v, S1, mv, e1, z1, b1, o1⟩ := k_odd (n + 5) hb (by decide)
  obtain ⟨s0, rfl⟩ : ∃ s0, S1 = [s0] := by
    match S1, z1 with
    | [s0], _ => exact ⟨s0, rfl⟩
  have five := odd_five mv
  simp only [fiveOk, List.all_cons, List.all_nil, Bool.and_true, Bool.and_eq_true] at five
  obtain ⟨x0, x1, x2, x3', x4, x5, x6⟩ := five
  have b2 : BG [s0, grW v] 0 1 := b1.of rfl
  have r1 := errors_right (n + 4) (x := v) (y := .list [v]) (s0 := s0) (s1 := grW v) (x3 x0 x1 x2)
  have r2 := errors_right (n + 4) (x := .list [v]) (y := v) (s0 := s0) (s1 := grW v) (x3 x0 x3' x4)
  have okR : ∀ m, m ≤ 2 → xOk ([PyData.list [.int 0, v], v].take m) = true := x3 x0 x5 x6
  obtain ⟨y5, y6, er⟩ := loopR (n + 7) (v := v) (s0 := s0) (sc := some (scriptW ns)) (r4 := some (.lw (rowsW (.loc 1) (.d v)))) (r7 := none) (r8 := none) (r9 := none) (r10 := none) (r11 := none) okR tbl (fun p m => by
    obtain ⟨k, hk⟩ := List.getElem?_of_mem m
    exact (tbl_at hk).2.2) none none
  have inv := for_invB (m := 12) (i := 7) (b := turnB (callN (n + 8)))
    (I := fun j ρ S => ∃ x7 x8 x9 x10 x11, ρ = [some (scriptW ns), some (.loc 0), some (.d v), some (.loc 1), some (.lw (rowsW (.loc 1) (.d v))), y5, y6, x7, x8, x9, x10, x11] ∧ S.length = 2 ∧ BG S 0 (1 + 20 * j))
    (fun j w ρ S hj ⟨x7, x8, x9, x10, x11, eρ, q1, q2⟩ => by
      subst eρ
      obtain ⟨y8, y9, y10, y11, S', t1, t2, t3⟩ := turn_ok (n + 3) (sc := some (scriptW ns)) (r2 := some (.d v)) (r3 := some (.loc 1)) (r4 := some (.lw (rowsW (.loc 1) (.d v)))) (r5 := y5) (r6 := y6) (r7 := some w) (r8 := x8) (r9 := x9) (r10 := x10) (r11 := x11) q2 (by omega) q1
      exact ⟨_, S', t1, ⟨some w, y8, y9, y10, y11, rfl, t2, t3.mono (by omega)⟩⟩)
  obtain ⟨ρE, SE, eE, _⟩ := inv (rangeW 0 12) 0 [some (scriptW ns), some (.loc 0), some (.d v), some (.loc 1), some (.lw (rowsW (.loc 1) (.d v))), y5, y6, none, none, none, none, none] [s0, grW v] (by rw [rangeW_len]; omega) ⟨_, _, _, _, _, rfl, rfl, b2⟩
  refine ⟨SE, ?_⟩
  rw [call32, if_pos (by omega)]
  show toR (b32 (callN (n + 8)) [some (scriptW ns), none, none, none, none, none, none, none, none, none, none, none] []) = _
  unfold b32
  refine ret_ok ((ev_seq (ρ1 := [some (scriptW ns), some (.loc 0), none, none, none, none, none, none, none, none, none, none]) (S1 := [b.so]) (ev_asg (i := 1) ?_)).trans ?_)
  · unfold fCallL
    rw [ev_one (ev_var rfl), R_ok, if_pos (by rfl)]
    exact eb
  have e26 : fCall 1 (callN (n + 8) 26) (fAc (fVar 1) fA0) [some (scriptW ns), some (.loc 0), none, none, none, none, none, none, none, none, none, none] [b.so] = .ok (.d v) [s0] := fcall_at (ws := [.loc 0]) (ev_one (ev_var rfl)) e1 rfl rfl
  refine (ev_seq (ρ1 := [some (scriptW ns), some (.loc 0), some (.d v), some (.loc 1), none, none, none, none, none, none, none, none]) (S1 := [s0, .lst [.int 0]]) ?_).trans ?_
  · unfold fPar
    rw [ev_ac e26 (ev_one (show fL gLive (fAc (fC (.int 0)) fA0) _ [s0] = .ok (.loc 1) [s0, .lst [.int 0]] from rfl))]
    rfl
  have e28 := k_rows (n := n + 5) (ρ := [some (scriptW ns), some (.loc 0), some (.d v), some (.loc 1), none, none, none, none, none, none, none, none]) (fa := fAc (fVar 3) (fAc (fVar 2) fA0)) (by rfl) (fun call => rows_l call v s0 (.lst [.int 0])) (frz_rows_l v s0 (.lst [.int 0]))
  refine (ev_seq (ρ1 := [some (scriptW ns), some (.loc 0), some (.d v), some (.loc 1), some (.lw (rowsW (.loc 1) (.d v))), none, none, none, none, none, none, none]) (S1 := [s0, .lst [.int 0]]) (ev_asg (i := 4) e28)).trans ?_
  refine (ev_seq (ρ1 := [some (scriptW ns), some (.loc 0), some (.d v), some (.loc 1), some (.lw (rowsW (.loc 1) (.d v))), none, none, none, none, none, none, none]) (S1 := [s0, grW v]) (ev_drop (x := .d .none) rfl)).trans ?_
  refine (ev_seq (ρ1 := [some (scriptW ns), some (.loc 0), some (.d v), some (.loc 1), some (.lw (rowsW (.loc 1) (.d v))), y5, y6, none, none, none, none, none]) (S1 := [s0, grW v]) ?_).trans ?_
  · have it : fItS (fVar 4) [some (scriptW ns), some (.loc 0), some (.d v), some (.loc 1), some (.lw (rowsW (.loc 1) (.d v))), none, none, none, none, none, none, none] [s0, grW v] = .ok ⟨rowsW (.loc 1) (.d v), fun _ => True⟩ [s0, grW v] := rfl
    unfold fFor
    rw [it]
    exact er
  have q1 : fCall 2 (callN (n + 8) 29) (fAc (fVar 2) (fAc (fL gLstW (fAc (fVar 2) fA0)) fA0)) [some (scriptW ns), some (.loc 0), some (.d v), some (.loc 1), some (.lw (rowsW (.loc 1) (.d v))), y5, y6, none, none, none, none, none] [s0, grW v] = .ok (bt true) [s0, grW v] := fcall_at (ws := [.d v, .d (.list [v])]) (ev_ac (ev_var rfl) (ev_one rfl)) r1 rfl rfl
  have q2 : fCall 2 (callN (n + 8) 29) (fAc (fL gLstW (fAc (fVar 2) fA0)) (fAc (fVar 2) fA0)) [some (scriptW ns), some (.loc 0), some (.d v), some (.loc 1), some (.lw (rowsW (.loc 1) (.d v))), y5, y6, none, none, none, none, none] [s0, grW v] = .ok (bt true) [s0, grW v] := fcall_at (ws := [.d (.list [v]), .d v]) (ev_ac rfl (ev_one (ev_var rfl))) r2 rfl rfl
  refine (ev_seq (ρ1 := [some (scriptW ns), some (.loc 0), some (.d v), some (.loc 1), some (.lw (rowsW (.loc 1) (.d v))), y5, y6, none, none, none, none, none]) (S1 := [s0, grW v]) ?_).trans ?_
  · have n1 := not_true q1
    have n2 := not_true q2
    unfold fIf fOrT
    rw [n1, R_ok, if_neg (by decide), n2]
    rfl
  refine (ev_seq (ρ1 := ρE) (S1 := SE) ?_).trans rfl
  unfold fFor
  rw [rng_nat 12 (by decide)]
  exact eE
end Q0
end VI
set_option Elab.async false
set_option linter.all false
set_option maxRecDepth 100000
set_option maxHeartbeats 0
namespace VI
open PySem PySem.Spec PyProof.Rows L2
abbrev fuel : Nat := 40
end VI
open PySem PySem.W PySem.Calls PyProof.Rows
theorem holds_of (good : ∀ ns : List Int, ns.length ≤ 63 → (∀ z ∈ ns, Builtin.Int.intBits z ≤ 1048576) → ∃ S', VI.callN (VI.fuel + 1) 32 [VI.scriptW ns] [] = .ok (.d (.bool true)) S') : PySem.Challenge.rw_kindsworn_k00_errors_numbers_and_names.Holds := by
  w_on; o_law
  refine HandSHeadRun.head_any (r := OpenLaw.row PySem.Challenge.rw_kindsworn_k00_errors_numbers_and_names) (q := view (OpenLaw.row PySem.Challenge.rw_kindsworn_k00_errors_numbers_and_names).prog [64]) (H := VI.hk) (ob := VI.ob) (M := 8000) (loose := VI.loose) (d := HandSHeadRun.topDef (OpenLaw.row PySem.Challenge.rw_kindsworn_k00_errors_numbers_and_names).prog 64) (kwd := []) VI.ob_eq
    (by kernel_rfl) (fun s => by kernel_rfl) VI.run (by kernel_rfl) (by kernel_rfl) (by kernel_rfl) (by rfl) (by first | assumption | decide +kernel) (by decide +kernel) ⟨rfl, rfl, rfl, rfl, rfl, by decide +kernel⟩ ?hw ?hc
  case hw => w_witness2
  case hc =>
    refine VI.walk_K (l := PySem.Challenge.rw_kindsworn_k00_errors_numbers_and_names) (n := 63) (k := VI.fuel + 1) (x := "script") (g := VI.callN (VI.fuel + 1) 32) rfl (by decide) (by kernel_rfl) ⟨rfl, by decide, by decide⟩ ?F good
    intro w mg fa h Y G hmg0
    obtain ⟨K, KX, S, e⟩ := Y
    have hmg : mg ("law" : PySem.Str) = some (.ref fa) := by
      have e : (HandSHeadRun.topDef (OpenLaw.row PySem.Challenge.rw_kindsworn_k00_errors_numbers_and_names).prog 64).name = ("law" : PySem.Str) := by kernel_rfl
      rw [← e]
      exact hmg0
    have F : VI.Facts (PySem.Challenge.rw_kindsworn_k00_errors_numbers_and_names).prog w K mg (VI.ctK K) := VI.facts KX G S e
    obtain ⟨fd, hb, hF⟩ := VI.law2_of (n := VI.fuel) (P := (PySem.Challenge.rw_kindsworn_k00_errors_numbers_and_names).prog) (w := w) (g := VI.callN (VI.fuel + 1) 32) (by decide) F.a32 VI.bn32 hmg VI.sc32 (fun _ _ => rfl) fun base _ _ _ _ _ _ _ r gd => VI.d32 (VI.tab_all (base := base) F VI.fuel) (by decide) r gd
    exact ⟨K, VI.ctK K, fd, KX, hb, fun base _ _ => hF base⟩
open PySem PySem.W PyProof.Rows
set_option Elab.async false
set_option maxRecDepth 100000 in
set_option maxHeartbeats 0 in
theorem PySem.Challenge.cw_kindsworn_k00_errors_numbers_and_names_holds : PySem.Challenge.rw_kindsworn_k00_errors_numbers_and_names.Holds := by
  exact holds_of fun ns h _ => VI.Q0.law_ok 32 h
