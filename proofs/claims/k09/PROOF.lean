import PyProof.Rows.All
import Wide.All
import OpenK.AllK
import Wide.FinOn
import HandS.Base
import HandS.Call
import HandS.List
import HandS.Evl
import HandS.Exc
import HandS.ExcOwn
import HandS.HeadHook1
import HandS.TupAny
import HandS.Wide
import HandS.Text
import HandS.IsInst
import HandS.Style
import HandS.Comp
import HandS.Iter
import HandS.Defaults
import HandS.Words
import HandS.WordsExc
import HandS.MakeKwOnly
import HandS.CallSlots
import HandS.ClsMeth
import HandS.Property
import HandS.OwnEq
import HandS.ExcInit
import HandS.ExcSuper
import HandS.ExcField
import HandS.ExcIs
import HandS.TryMany
import PyProof.ExcBaseAll.Exception
import KE.KExcPX
import KE.KExcIs
import PyProof.InstNe
import HandS.CallLocal
import KE.GoesEnum
import HandS.Zip
import HandS.Head0
import HandS.Head1
import HandS.Head2
import HandS.HeadEnd
import HandS.HeadHook2
import Lean
import KE.KStateDown
import PySem.Challenge.RW_upsanddowns_k09_gains
set_option Elab.async false
set_option linter.all false
set_option maxRecDepth 100000
set_option maxHeartbeats 1000000
/-! G0: plain data that values stand for; an abstract store of lists that are owned; what a computation on them promises. -/
namespace G
open PySem L2

inductive D where
  | non | bl (b : Bool) | int (i : Int) | str (s : Str)
  | tup (xs : List D) | lst (xs : List D) | sq (xs : List D)
  | obj (c : Str) (fs : List (Str × D)) | cls (c : Str)

/-- the address of a class by its name -/
abbrev ca (K : PySem.W.Frag) (c : Str) : Addr := He.ga K c

mutual
inductive RD (K : PySem.W.Frag) (H : Hp) : D → V → Prop
  | non : RD K H .non .non
  | bl (b : Bool) : RD K H (.bl b) (.bl b)
  | int (i : Int) : RD K H (.int i) (.int i)
  | str (s : Str) : RD K H (.str s) (.str s)
  | tup {ds : List D} {a : Addr} {vs : List V} : SqT K H a vs → RDs K H ds vs → RD K H (.tup ds) (.ref a)
  | lst {ds : List D} {a : Addr} {vs : List V} : H a = some (.lst vs) → RDs K H ds vs → RD K H (.lst ds) (.ref a)
  | sq {ds : List D} {a : Addr} {vs : List V} : SqL K H a vs → RDs K H ds vs → RD K H (.sq ds) (.ref a)
  | obj {c : Str} {fs : List (Str × D)} {a dx : Addr} {gs : List (Str × V)} : H a = some (.ins (ca K c) dx gs) → RDf K H fs gs → RD K H (.obj c fs) (.ref a)
  | cls (c : Str) : RD K H (.cls c) (.ref (ca K c))
inductive RDs (K : PySem.W.Frag) (H : Hp) : List D → List V → Prop
  | nil : RDs K H [] []
  | cons {d : D} {v : V} {ds : List D} {vs : List V} : RD K H d v → RDs K H ds vs → RDs K H (d :: ds) (v :: vs)
inductive RDf (K : PySem.W.Frag) (H : Hp) : List (Str × D) → List (Str × V) → Prop
  | nil : RDf K H [] []
  | cons {f : Str} {d : D} {v : V} {ds : List (Str × D)} {vs : List (Str × V)} : RD K H d v → RDf K H ds vs → RDf K H ((f, d) :: ds) ((f, v) :: vs)
end

section
variable {K : PySem.W.Frag} {H H' : Hp}
mutual
theorem RD.mono (e : Evl.Ex H H') : ∀ {d : D} {v : V}, RD K H d v → RD K H' d v
  | _, _, .non => .non
  | _, _, .bl b => .bl b
  | _, _, .int i => .int i
  | _, _, .str s => .str s
  | _, _, .tup a r => .tup (Evl.ex_t e a) (RDs.mono e r)
  | _, _, .lst a r => .lst (e _ _ a) (RDs.mono e r)
  | _, _, .sq a r => .sq (Evl.ex_l e a) (RDs.mono e r)
  | _, _, .obj a r => .obj (e _ _ a) (RDf.mono e r)
  | _, _, .cls c => .cls c
theorem RDs.mono (e : Evl.Ex H H') : ∀ {ds : List D} {vs : List V}, RDs K H ds vs → RDs K H' ds vs
  | _, _, .nil => .nil
  | _, _, .cons a r => .cons (RD.mono e a) (RDs.mono e r)
theorem RDf.mono (e : Evl.Ex H H') : ∀ {ds : List (Str × D)} {vs : List (Str × V)}, RDf K H ds vs → RDf K H' ds vs
  | _, _, .nil => .nil
  | _, _, .cons a r => .cons (RD.mono e a) (RDf.mono e r)
end
theorem RDs.length {ds : List D} {vs : List V} (h : RDs K H ds vs) : ds.length = vs.length := by
  induction ds generalizing vs with
  | nil => cases h; rfl
  | cons d ds ih => cases h with | cons a r => simp [ih r]
theorem RDs.get {ds : List D} {vs : List V} (h : RDs K H ds vs) {i : Nat} {d : D} (e : ds[i]? = some d) : ∃ v, vs[i]? = some v ∧ RD K H d v := by
  induction ds generalizing vs i with
  | nil => simp at e
  | cons d' ds ih =>
    cases h with
    | cons a r =>
      cases i with
      | zero => simp at e; subst e; exact ⟨_, rfl, a⟩
      | succ i => simpa using ih r (by simpa using e)
theorem RDs.append {ds es : List D} {vs us : List V} (h : RDs K H ds vs) (k : RDs K H es us) : RDs K H (ds ++ es) (vs ++ us) := by
  induction ds generalizing vs with
  | nil => cases h; exact k
  | cons d ds ih => cases h with | cons a r => exact .cons a (ih r)
theorem RDs.drop {ds : List D} {vs : List V} (h : RDs K H ds vs) (n : Nat) : RDs K H (ds.drop n) (vs.drop n) := by
  induction n generalizing ds vs with
  | zero => exact h
  | succ n ih =>
    cases h with
    | nil => exact .nil
    | cons a r => exact ih r
theorem RDs.take {ds : List D} {vs : List V} (h : RDs K H ds vs) (n : Nat) : RDs K H (ds.take n) (vs.take n) := by
  induction n generalizing ds vs with
  | zero => exact .nil
  | succ n ih =>
    cases h with
    | nil => exact .nil
    | cons a r => exact .cons a (ih r)
theorem look_cons {α : Type} (f g : Str) (v : α) (l : List (Str × α)) : ((g, v) :: l).lookup f = if f = g then some v else l.lookup f := by
  by_cases q : f = g
  · subst q; simp [List.lookup]
  · have q' : (f == g) = false := by simpa using q
    rw [if_neg q]; simp [List.lookup, q']
theorem RDf.look {ds : List (Str × D)} {vs : List (Str × V)} (h : RDf K H ds vs) {f : Str} {d : D} (e : ds.lookup f = some d) : ∃ v, vs.lookup f = some v ∧ RD K H d v := by
  induction ds generalizing vs with
  | nil => cases e
  | cons p ds ih =>
    cases h with
    | @cons g d' v' _ vs' a r =>
      rw [look_cons] at e ⊢
      by_cases q : f = g
      · rw [if_pos q] at e ⊢
        have e2 : d' = d := Option.some.inj e
        subst e2; exact ⟨_, rfl, a⟩
      · rw [if_neg q] at e ⊢
        exact ih r e
theorem RDf.nolook {ds : List (Str × D)} {vs : List (Str × V)} (h : RDf K H ds vs) {f : Str} (e : ds.lookup f = none) : vs.lookup f = none := by
  induction ds generalizing vs with
  | nil => cases h; rfl
  | cons p ds ih =>
    cases h with
    | @cons g d' v' _ vs' a r =>
      rw [look_cons] at e ⊢
      by_cases q : f = g
      · rw [if_pos q] at e; cases e
      · rw [if_neg q] at e ⊢
        exact ih r e
end

/-! ### values with owned lists -/
inductive W where
  | val (d : D) | ref (i : Nat)
inductive Cell where
  | lst (xs : List W) | ob (c : Str) (fs : List (Str × D))
abbrev Hs := List (Option Cell)
abbrev Mp := Nat → Option Addr
def RW (K : PySem.W.Frag) (H0 : Hp) (m : Mp) : W → V → Prop
  | .val d, v => RD K H0 d v
  | .ref i, v => ∃ a, m i = some a ∧ v = .ref a
abbrev RWs (K : PySem.W.Frag) (H0 : Hp) (m : Mp) : List W → List V → Prop := Paired (RW K H0 m)
def CellAt (K : PySem.W.Frag) (H0 H : Hp) (m : Mp) (a : Addr) : Cell → Prop
  | .lst xs => ∃ vs, H a = some (.lst vs) ∧ RWs K H0 m xs vs
  | .ob c fs => ∃ dx gs, H a = some (.ins (ca K c) dx gs) ∧ RDf K H0 fs gs ∧ fs.length ≤ 900

structure Rl (K : PySem.W.Frag) (H0 H : Hp) (m : Mp) (S : Hs) : Prop where
  sub : Evl.Ex H0 H
  dom : ∀ i a, m i = some a → i < S.length
  tr : ∀ i a, m i = some a → ∃ o, H a = some o
  own : ∀ i c, S[i]? = some (some c) → ∃ a, m i = some a ∧ H0 a = none ∧ CellAt K H0 H m a c
  inj : ∀ i j a, m i = some a → m j = some a → i = j

structure Xt (H0 H : Hp) (m : Mp) (H0' H' : Hp) (m' : Mp) : Prop where
  h0 : Evl.Ex H0 H0'
  mm : ∀ i a, m i = some a → m' i = some a
  fr : ∀ a o, H a = some o → (∀ i, m i ≠ some a) → H' a = some o
  tr : ∀ a o, H a = some o → ∃ o', H' a = some o'
  nw : ∀ i a, m' i = some a → m i = some a ∨ H a = none
  n0 : ∀ a o, H0' a = some o → (∃ o', H0 a = some o') ∨ H a = none ∨ ∃ i, m i = some a

section
variable {K : PySem.W.Frag} {H0 H H1 H2 H0' H' H0'' H'' : Hp} {m m' m'' : Mp} {S S' : Hs}
theorem Xt.refl : Xt H0 H m H0 H m :=
  ⟨fun _ _ h => h, fun _ _ h => h, fun _ _ h _ => h, fun _ o h => ⟨o, h⟩, fun _ _ h => .inl h, fun _ o h => .inl ⟨o, h⟩⟩
theorem Xt.none_of (x : Xt H0 H m H0' H' m') {a : Addr} (h : H' a = none) : H a = none := by
  cases e : H a with
  | none => rfl
  | some o => obtain ⟨o', e'⟩ := x.tr a o e; rw [h] at e'; cases e'
theorem Xt.trans (x : Xt H0 H m H0' H' m') (y : Xt H0' H' m' H0'' H'' m'') : Xt H0 H m H0'' H'' m'' where
  h0 := x.h0.trans y.h0
  mm := fun i a h => y.mm i a (x.mm i a h)
  fr := fun a o h n => y.fr a o (x.fr a o h n) fun i q => by
    rcases x.nw i a q with z | z
    · exact n i z
    · rw [h] at z; cases z
  tr := fun a o h => by
    obtain ⟨o', e⟩ := x.tr a o h
    exact y.tr a o' e
  nw := fun i a h => by
    rcases y.nw i a h with z | z
    · exact x.nw i a z
    · exact .inr (x.none_of z)
  n0 := fun a o h => by
    rcases y.n0 a o h with ⟨o', z⟩ | z | ⟨i, z⟩
    · exact x.n0 a o' z
    · exact .inr (.inl (x.none_of z))
    · rcases x.nw i a z with q | q
      · exact .inr (.inr ⟨i, q⟩)
      · exact .inr (.inl q)
theorem RW.mono (h : Evl.Ex H0 H0') (k : ∀ i a, m i = some a → m' i = some a) {w : W} {v : V} (r : RW K H0 m w v) : RW K H0' m' w v := by
  cases w with
  | val d => exact RD.mono h r
  | ref i => obtain ⟨a, e, q⟩ := r; exact ⟨a, k i a e, q⟩
theorem RWs.mono (h : Evl.Ex H0 H0') (k : ∀ i a, m i = some a → m' i = some a) {ws : List W} {vs : List V} (r : RWs K H0 m ws vs) : RWs K H0' m' ws vs :=
  Paired.mapP r fun _ _ z => z.mono h k
theorem RWs.get {ws : List W} {vs : List V} (h : RWs K H0 m ws vs) {i : Nat} {d : W} (e : ws[i]? = some d) : ∃ v, vs[i]? = some v ∧ RW K H0 m d v := by
  induction ws generalizing vs i with
  | nil => simp at e
  | cons d' ds ih =>
    cases h with
    | cons a r =>
      cases i with
      | zero => simp at e; subst e; exact ⟨_, rfl, a⟩
      | succ i => simpa using ih r (by simpa using e)
theorem RWs.len {ws : List W} {vs : List V} (h : RWs K H0 m ws vs) : ws.length = vs.length := Paired.length h
theorem RWs.app {ws us : List W} {vs zs : List V} (h : RWs K H0 m ws vs) (k : RWs K H0 m us zs) : RWs K H0 m (ws ++ us) (vs ++ zs) := by
  induction ws generalizing vs with
  | nil => cases h; exact k
  | cons d ds ih => cases h with | cons a r => exact .cons a (ih r)
theorem RWs.set {ws : List W} {vs : List V} (h : RWs K H0 m ws vs) {w : W} {v : V} (r : RW K H0 m w v) (i : Nat) : RWs K H0 m (ws.set i w) (vs.set i v) := by
  induction ws generalizing vs i with
  | nil => cases h; exact .nil
  | cons d ds ih =>
    cases h with
    | cons a q =>
      cases i with
      | zero => exact .cons r q
      | succ i => exact .cons a (ih q i)
theorem RWs.drop {ws : List W} {vs : List V} (h : RWs K H0 m ws vs) (n : Nat) : RWs K H0 m (ws.drop n) (vs.drop n) := by
  induction n generalizing ws vs with
  | zero => exact h
  | succ n ih => cases h with | nil => exact .nil | cons a r => exact ih r
theorem RWs.take {ws : List W} {vs : List V} (h : RWs K H0 m ws vs) (n : Nat) : RWs K H0 m (ws.take n) (vs.take n) := by
  induction n generalizing ws vs with
  | zero => exact .nil
  | succ n ih => cases h with | nil => exact .nil | cons a r => exact .cons a (ih r)
theorem RWs.rev {ws : List W} {vs : List V} (h : RWs K H0 m ws vs) : RWs K H0 m ws.reverse vs.reverse := by
  induction ws generalizing vs with
  | nil => cases h; exact .nil
  | cons d ds ih =>
    cases h with
    | cons a r => rw [List.reverse_cons, List.reverse_cons]; exact RWs.app (ih r) (.cons a .nil)
theorem RDs.toW {ds : List D} {vs : List V} (h : RDs K H0 ds vs) : RWs K H0 m (ds.map .val) vs := by
  induction ds generalizing vs with
  | nil => cases h; exact .nil
  | cons d ds ih => cases h with | cons a r => exact .cons a (ih r)
/-- all of them plain -/
def vals? : List W → Option (List D)
  | [] => some []
  | .val d :: ws => (vals? ws).map (d :: ·)
  | .ref _ :: _ => none
theorem vals?_rel : ∀ {ws : List W} {ds : List D} {vs : List V}, vals? ws = some ds → RWs K H0 m ws vs → RDs K H0 ds vs
  | [], ds, vs, e, h => by
    have e2 : ([] : List D) = ds := Option.some.inj e
    subst e2; cases h; exact .nil
  | .val d :: ws, ds, vs, e, h => by
    have e2 : (vals? ws).map (d :: ·) = some ds := e
    cases h with
    | cons a r =>
      cases q : vals? ws with
      | none => rw [q] at e2; cases e2
      | some ds' =>
        rw [q] at e2
        have e3 : d :: ds' = ds := Option.some.inj e2
        subst e3
        exact .cons a (vals?_rel q r)
  | .ref i :: ws, ds, vs, e, h => by cases e
theorem CellAt.mono (h : Evl.Ex H0 H0') (k : ∀ i a, m i = some a → m' i = some a) {a : Addr} {c : Cell} (q : ∀ o, H a = some o → H' a = some o) (x : CellAt K H0 H m a c) : CellAt K H0' H' m' a c := by
  cases c with
  | lst xs => obtain ⟨vs, e, r⟩ := x; exact ⟨vs, q _ e, r.mono h k⟩
  | ob c fs => obtain ⟨dx, gs, e, r, l⟩ := x; exact ⟨dx, gs, q _ e, RDf.mono h r, l⟩
/-- a new plain object is laid -/
theorem Rl.new (r : Rl K H0 H m S) {p : Addr} {o : HO} (hp : H p = none) : Xt H0 H m (upd H0 p o) (upd H p o) m ∧ Rl K (upd H0 p o) (upd H p o) m S := by
  have z0 : H0 p = none := by
    cases e : H0 p with
    | none => rfl
    | some u => rw [r.sub p u e] at hp; cases hp
  have nm : ∀ i a, m i = some a → a ≠ p := fun i a e z => by
    obtain ⟨u, q⟩ := r.tr i a e
    rw [z, hp] at q; cases q
  refine ⟨⟨Evl.Ex.new z0, fun _ _ h => h, fun a u h _ => by rw [upd_ne (ne_of_none h hp)]; exact h, fun a u h => ⟨u, by rw [upd_ne (ne_of_none h hp)]; exact h⟩, fun _ _ h => .inl h, fun a u h => ?_⟩,
    ⟨fun a u h => ?_, r.dom, fun i a e => ?_, fun i c e => ?_, r.inj⟩⟩
  · by_cases q : a = p
    · exact .inr (.inl (q ▸ hp))
    · rw [upd_ne q] at h; exact .inl ⟨u, h⟩
  · by_cases q : a = p
    · subst q; rw [upd_same] at h ⊢; exact h
    · rw [upd_ne q] at h ⊢; exact r.sub a u h
  · obtain ⟨u, q⟩ := r.tr i a e
    exact ⟨u, by rw [upd_ne (nm i a e)]; exact q⟩
  · obtain ⟨a, e1, e2, e3⟩ := r.own i c e
    refine ⟨a, e1, by rw [upd_ne (nm i a e1)]; exact e2, e3.mono (Evl.Ex.new z0) (fun _ _ h => h) fun u q => by rw [upd_ne (nm i a e1)]; exact q⟩
/-- a new owned cell at p -/
def Mp.put (m : Mp) (n : Nat) (p : Addr) : Mp := fun j => if j = n then some p else m j
theorem Rl.newCell (r : Rl K H0 H m S) {p : Addr} {o : HO} (hp : H p = none) {c : Cell} (hc : CellAt K H0 (upd H p o) (m.put S.length p) p c) :
    Xt H0 H m H0 (upd H p o) (m.put S.length p) ∧ Rl K H0 (upd H p o) (m.put S.length p) (S ++ [some c]) := by
  have z0 : H0 p = none := by
    cases e : H0 p with
    | none => rfl
    | some u => rw [r.sub p u e] at hp; cases hp
  have nm : ∀ i a, m i = some a → a ≠ p := fun i a e z => by
    obtain ⟨u, q⟩ := r.tr i a e
    rw [z, hp] at q; cases q
  have mm : ∀ i a, m i = some a → m.put S.length p i = some a := fun i a e => by
    have := r.dom i a e
    unfold Mp.put
    rw [if_neg (by omega)]; exact e
  have back : ∀ i a, m.put S.length p i = some a → (i = S.length ∧ a = p) ∨ m i = some a := fun i a e => by
    unfold Mp.put at e
    by_cases q : i = S.length
    · rw [if_pos q] at e; exact .inl ⟨q, (Option.some.inj e).symm⟩
    · rw [if_neg q] at e; exact .inr e
  refine ⟨⟨fun _ _ h => h, mm, fun a u h _ => by rw [upd_ne (ne_of_none h hp)]; exact h, fun a u h => ⟨u, by rw [upd_ne (ne_of_none h hp)]; exact h⟩, fun i a e => ?_, fun a u h => .inl ⟨u, h⟩⟩,
    ⟨fun a u h => ?_, fun i a e => ?_, fun i a e => ?_, fun i d e => ?_, fun i j a e1 e2 => ?_⟩⟩
  · rcases back i a e with ⟨_, z⟩ | z
    · exact .inr (z ▸ hp)
    · exact .inl z
  · rw [upd_ne (ne_of_none (r.sub a u h) hp)]; exact r.sub a u h
  · rw [List.length_append, List.length_singleton]
    rcases back i a e with ⟨z, _⟩ | z
    · omega
    · have := r.dom i a z; omega
  · rcases back i a e with ⟨_, z⟩ | z
    · exact ⟨o, by rw [z, upd_same]⟩
    · obtain ⟨u, q⟩ := r.tr i a z
      exact ⟨u, by rw [upd_ne (nm i a z)]; exact q⟩
  · by_cases q : i < S.length
    · rw [List.getElem?_append_left q] at e
      obtain ⟨a, e1, e2, e3⟩ := r.own i d e
      exact ⟨a, mm i a e1, e2, e3.mono (fun _ _ h => h) mm fun u q => by rw [upd_ne (nm i a e1)]; exact q⟩
    · have hi : i = S.length := by
        rcases Nat.lt_or_ge S.length i with z | z
        · rw [List.getElem?_eq_none (by simp; omega)] at e; cases e
        · omega
      subst hi
      rw [List.getElem?_append_right (Nat.le_refl _)] at e
      simp at e
      subst e
      exact ⟨p, by unfold Mp.put; rw [if_pos rfl], z0, hc⟩
  · rcases back i a e1 with ⟨z1, z2⟩ | z
    · rcases back j a e2 with ⟨y1, y2⟩ | y
      · omega
      · exact absurd z2 (nm j a y)
    · rcases back j a e2 with ⟨y1, y2⟩ | y
      · exact absurd y2 (nm i a z)
      · exact r.inj i j a z y
/-- an owned cell changes -/
theorem Rl.setCell (r : Rl K H0 H m S) {i : Nat} {a : Addr} {o : HO} {c : Cell} (hi : m i = some a) (h0 : H0 a = none) (hc : CellAt K H0 (upd H a o) m a c) :
    Xt H0 H m H0 (upd H a o) m ∧ Rl K H0 (upd H a o) m (S.set i (some c)) := by
  have ho : ∃ o', H a = some o' := r.tr i a hi
  refine ⟨⟨fun _ _ h => h, fun _ _ h => h, fun b u h n => ?_, fun b u h => ?_, fun _ _ h => .inl h, fun b u h => .inl ⟨u, h⟩⟩,
    ⟨fun b u h => ?_, fun j b e => ?_, fun j b e => ?_, fun j d e => ?_, r.inj⟩⟩
  · rw [upd_ne (fun z => n i (by rw [z]; exact hi))]; exact h
  · by_cases q : b = a
    · exact ⟨o, by rw [q, upd_same]⟩
    · exact ⟨u, by rw [upd_ne q]; exact h⟩
  · rw [upd_ne (ne_of_none h h0)]; exact r.sub b u h
  · rw [List.length_set]; exact r.dom j b e
  · by_cases q : b = a
    · exact ⟨o, by rw [q, upd_same]⟩
    · obtain ⟨u, z⟩ := r.tr j b e
      exact ⟨u, by rw [upd_ne q]; exact z⟩
  · by_cases q : j = i
    · subst q
      have hl := r.dom j a hi
      rw [List.getElem?_set_self hl] at e
      have e2 : c = d := Option.some.inj (Option.some.inj e)
      subst e2
      exact ⟨a, hi, h0, hc⟩
    · rw [List.getElem?_set_ne (Ne.symm q)] at e
      obtain ⟨b, e1, e2, e3⟩ := r.own j d e
      have nb : b ≠ a := fun z => q (r.inj j i b e1 (by rw [z]; exact hi))
      exact ⟨b, e1, e2, e3.mono (fun _ _ h => h) (fun _ _ h => h) fun u z => by rw [upd_ne nb]; exact z⟩
end

/-! ### computations -/
inductive R (α : Type) where
  | ok (a : α) (S : Hs) | exc (c : Str) (fs : List (Str × D)) (S : Hs) | no
def R.bind {α β : Type} (r : R α) (k : α → Hs → R β) : R β := match r with
  | .ok a S => k a S
  | .exc c fs S => .exc c fs S
  | .no => .no
def Post {α β : Type} (K : PySem.W.Frag) (H0 H : Hp) (m : Mp) (rel : Hp → Mp → α → β → Prop) (Q : β → Hp → Prop) (E : XK) : R α → Prop
  | .ok a S' => ∀ (H0' H' : Hp) (m' : Mp) (b : β), Xt H0 H m H0' H' m' → Rl K H0' H' m' S' → rel H0' m' a b → Q b H'
  | .exc c fs S' => ∀ (H0' H' : Hp) (m' : Mp) (d : Addr) (gs : List (Str × V)), Xt H0 H m H0' H' m' → Rl K H0' H' m' S' → H0' d = some (.xd gs) → RDf K H0' fs gs → E (.ref (ca K c)) (some d) H'
  | .no => False
section
variable {α β γ δ : Type} {K : PySem.W.Frag} {H0 H H0' H' : Hp} {m m' : Mp} {S : Hs} {rel : Hp → Mp → α → β → Prop} {rel2 : Hp → Mp → γ → δ → Prop} {Q : β → Hp → Prop} {Q2 : δ → Hp → Prop} {E : XK}
theorem Post.shift {r : R α} (x : Xt H0 H m H0' H' m') (h : Post K H0 H m rel Q E r) : Post K H0' H' m' rel Q E r := by
  cases r with
  | ok a S' => exact fun A B n b y z w => h A B n b (x.trans y) z w
  | exc c fs S' => exact fun A B n d gs y z w u => h A B n d gs (x.trans y) z w u
  | no => exact h
theorem Post.bind {r : R α} {k : α → Hs → R γ} {rest : β → Hp → Prop} (h : Post K H0 H m rel2 Q2 E (r.bind k))
    (step : ∀ (a : α) (S1 : Hs) (A B : Hp) (n : Mp) (b : β), r = .ok a S1 → Xt H0 H m A B n → Rl K A B n S1 → rel A n a b → Post K A B n rel2 Q2 E (k a S1) → rest b B) : Post K H0 H m rel rest E r := by
  cases r with
  | ok a S' => exact fun A B n b y z w => step a S' A B n b rfl y z w (Post.shift y h)
  | exc c fs S' => exact fun A B n d gs y z w u => h A B n d gs y z w u
  | no => exact h
theorem Post.now {a : α} {b : β} (h : Post K H0 H m rel Q E (.ok a S)) (r : Rl K H0 H m S) (w : rel H0 m a b) : Q b H := h H0 H m b Xt.refl r w
end
abbrev relW (K : PySem.W.Frag) : Hp → Mp → W → V → Prop := RW K
abbrev relA (K : PySem.W.Frag) : Hp → Mp → List W → List V → Prop := RWs K
abbrev relB : Hp → Mp → Bool → Bool → Prop := fun _ _ a b => a = b

/-! ### slots -/
abbrev Env := List (Option W)
structure REnv (K : PySem.W.Frag) (H0 : Hp) (m : Mp) (ρ : Env) (σ : L2.St) : Prop where
  len : ρ.length = σ.length
  at_ : ∀ (i : Nat) (w : W), ρ[i]? = some (some w) → ∃ v, σ[i]? = some (some v) ∧ RW K H0 m w v
section
variable {K : PySem.W.Frag} {H0 H H0' H' : Hp} {m m' : Mp} {ρ : Env} {σ : L2.St}
theorem REnv.mono (h : Evl.Ex H0 H0') (k : ∀ i a, m i = some a → m' i = some a) (r : REnv K H0 m ρ σ) : REnv K H0' m' ρ σ :=
  ⟨r.len, fun i w e => by obtain ⟨v, q, z⟩ := r.at_ i w e; exact ⟨v, q, z.mono h k⟩⟩
theorem REnv.on (x : Xt H0 H m H0' H' m') (r : REnv K H0 m ρ σ) : REnv K H0' m' ρ σ := r.mono x.h0 x.mm
theorem REnv.set (r : REnv K H0 m ρ σ) {w : W} {v : V} (h : RW K H0 m w v) (i : Nat) : REnv K H0 m (ρ.set i (some w)) (σ.set i (some v)) := by
  refine ⟨by simp [r.len], fun j u e => ?_⟩
  by_cases q : i = j
  · subst q
    by_cases l : i < ρ.length
    · rw [List.getElem?_set_self l] at e
      have e2 : w = u := Option.some.inj (Option.some.inj e)
      subst e2
      exact ⟨v, by rw [List.getElem?_set_self (by rw [← r.len]; exact l)], h⟩
    · rw [List.getElem?_eq_none (by simpa using l)] at e; cases e
  · rw [List.getElem?_set_ne q] at e ⊢
    exact r.at_ j u e
theorem REnv.clear (r : REnv K H0 m ρ σ) (i : Nat) : REnv K H0 m (ρ.set i none) (σ.set i none) := by
  refine ⟨by simp [r.len], fun j u e => ?_⟩
  by_cases q : i = j
  · subst q
    by_cases l : i < ρ.length
    · rw [List.getElem?_set_self l] at e; cases e
    · rw [List.getElem?_eq_none (by simpa using l)] at e; cases e
  · rw [List.getElem?_set_ne q] at e ⊢
    exact r.at_ j u e
/-- a slot's datum forgotten -/
theorem REnv.drop (r : REnv K H0 m ρ σ) (i : Nat) : REnv K H0 m (ρ.set i none) σ := by
  refine ⟨by simp [r.len], fun j u e => ?_⟩
  by_cases q : i = j
  · subst q
    by_cases l : i < ρ.length
    · rw [List.getElem?_set_self l] at e; cases e
    · rw [List.getElem?_eq_none (by simpa using l)] at e; cases e
  · rw [List.getElem?_set_ne q] at e
    exact r.at_ j u e
end
end G

set_option Elab.async false
set_option linter.all false
set_option maxRecDepth 100000
set_option maxHeartbeats 1000000
/-! G1: expressions: what they evaluate to. -/
namespace G
open PySem L2

abbrev Ev := Env → Hs → R W
abbrev Et := Env → Hs → R Bool
abbrev Ea := Env → Hs → R (List W)
/-- what is wished of exceptions, at the slots; what is known of the slots -/
structure Wc where
  x : WX
  p : L2.St → Hp → Prop
  mono : ∀ σ H0 A, Evl.Ex H0 A → p σ H0 → p σ A
def Wc.P (w : Wc) (σ : L2.St) (H0 : Hp) : Prop := w.p σ H0
theorem Wc.P.on {w : Wc} {σ : L2.St} {H0 H A B : Hp} {m n : Mp} (φ : w.P σ H0) (xt : Xt H0 H m A B n) : w.P σ A := w.mono σ H0 A xt.h0 φ
def up (w : WX) : Wc := ⟨w, fun _ _ => True, fun _ _ _ _ h => h⟩
def SE (K : PySem.W.Frag) (w : Wc) (te : TE) (f : Ev) : Prop := ∀ (ρ : Env) (S : Hs) (σ : L2.St) (H0 H : Hp) (m : Mp) (Q : VK), w.P σ H0 → Rl K H0 H m S → REnv K H0 m ρ σ → Post K H0 H m (relW K) Q (WE w.x σ) (f ρ S) → te σ H Q
def ST (K : PySem.W.Frag) (w : Wc) (te : TT) (f : Et) : Prop := ∀ (ρ : Env) (S : Hs) (σ : L2.St) (H0 H : Hp) (m : Mp) (Q : Bool → Hp → Prop), w.P σ H0 → Rl K H0 H m S → REnv K H0 m ρ σ → Post K H0 H m relB Q (WE w.x σ) (f ρ S) → te σ H Q
def SA (K : PySem.W.Frag) (w : Wc) (te : TA) (f : Ea) : Prop := ∀ (ρ : Env) (S : Hs) (σ : L2.St) (H0 H : Hp) (m : Mp) (Q : List V → Hp → Prop), w.P σ H0 → Rl K H0 H m S → REnv K H0 m ρ σ → Post K H0 H m (relA K) Q (WE w.x σ) (f ρ S) → te σ H Q
abbrev TOp := L2.St → Hp → (Option Int → Hp → Prop) → Prop
abbrev Eo := Env → Hs → R (Option Int)
abbrev relO : Hp → Mp → Option Int → Option Int → Prop := fun _ _ a b => a = b
def SO (K : PySem.W.Frag) (w : Wc) (te : TOp) (f : Eo) : Prop := ∀ (ρ : Env) (S : Hs) (σ : L2.St) (H0 H : Hp) (m : Mp) (Q : Option Int → Hp → Prop), w.P σ H0 → Rl K H0 H m S → REnv K H0 m ρ σ → Post K H0 H m relO Q (WE w.x σ) (f ρ S) → te σ H Q
/-- operations on values -/
def O2 (K : PySem.W.Frag) (r : R2) (g : W → W → Hs → R W) : Prop := ∀ (x y : W) (v u : V) (S : Hs) (H0 H : Hp) (m : Mp) (Q : VK) (E : XK), Rl K H0 H m S → RW K H0 m x v → RW K H0 m y u → Post K H0 H m (relW K) Q E (g x y S) → r v u H Q
def O1 (K : PySem.W.Frag) (r : V → Hp → VK → Prop) (g : W → Hs → R W) : Prop := ∀ (x : W) (v : V) (S : Hs) (H0 H : Hp) (m : Mp) (Q : VK) (E : XK), Rl K H0 H m S → RW K H0 m x v → Post K H0 H m (relW K) Q E (g x S) → r v H Q
def OC (K : PySem.W.Frag) (r : List V → Hp → VK → Prop) (g : List W → Hs → R W) : Prop := ∀ (xs : List W) (vs : List V) (S : Hs) (H0 H : Hp) (m : Mp) (Q : VK) (E : XK), Rl K H0 H m S → RWs K H0 m xs vs → Post K H0 H m (relW K) Q E (g xs S) → r vs H Q

/-! ### the evaluators -/
def evVar (i : Nat) : Ev := fun ρ S => match ρ[i]? with
  | some (some w) => .ok w S
  | _ => .no
def evC (d : D) : Ev := fun _ S => .ok (.val d) S
def evBin (g : W → W → Hs → R W) (a b : Ev) : Ev := fun ρ S => (a ρ S).bind fun x S1 => (b ρ S1).bind fun y S2 => g x y S2
def evUn (g : W → Hs → R W) (a : Ev) : Ev := fun ρ S => (a ρ S).bind fun x S1 => g x S1
def eaNil : Ea := fun _ S => .ok [] S
def eaCons (a : Ev) (b : Ea) : Ea := fun ρ S => (a ρ S).bind fun x S1 => (b ρ S1).bind fun xs S2 => .ok (x :: xs) S2
def evCB (g : List W → Hs → R W) (a : Ea) : Ev := fun ρ S => (a ρ S).bind fun xs S1 => g xs S1
def asB (x : W) (S : Hs) : R Bool := match x with
  | .val (.bl b) => .ok b S
  | _ => .no
def etV (a : Ev) : Et := fun ρ S => (a ρ S).bind asB
def etAnd (a b : Et) : Et := fun ρ S => (a ρ S).bind fun x S1 => if x = true then b ρ S1 else .ok false S1
def etOr (a b : Et) : Et := fun ρ S => (a ρ S).bind fun x S1 => if x = true then .ok true S1 else b ρ S1
def etNot (a : Et) : Et := fun ρ S => (a ρ S).bind fun x S1 => .ok (!x) S1
def evAnd (a b : Ev) : Ev := fun ρ S => (a ρ S).bind fun x S1 => (asB x S1).bind fun c S2 => if c = true then b ρ S2 else .ok (.val (.bl false)) S2
def evOr (a b : Ev) : Ev := fun ρ S => (a ρ S).bind fun x S1 => (asB x S1).bind fun c S2 => if c = true then .ok (.val (.bl true)) S2 else b ρ S2
def evNot (a : Ev) : Ev := fun ρ S => (a ρ S).bind fun x S1 => (asB x S1).bind fun c S2 => .ok (.val (.bl (!c))) S2
def evIf (t : Et) (a b : Ev) : Ev := fun ρ S => (t ρ S).bind fun c S1 => if c = true then a ρ S1 else b ρ S1
/-- a new tuple; a new list: plain, or owned -/
def mkTup (ws : List W) (S : Hs) : R W := match vals? ws with
  | some ds => if ds.length ≤ 16777216 then .ok (.val (.tup ds)) S else .no
  | none => .no
def mkLst (own : Bool) (ws : List W) (S : Hs) : R W :=
  if ws.length ≤ 16777216 then (if own = true then .ok (.ref S.length) (S ++ [some (.lst ws)]) else match vals? ws with
    | some ds => .ok (.val (.lst ds)) S
    | none => .ok (.ref S.length) (S ++ [some (.lst ws)])) else .no
def evTup (a : Ea) : Ev := evCB mkTup a
def evLst (own : Bool) (a : Ea) : Ev := evCB (mkLst own) a

section
variable {K : PySem.W.Frag} {w : Wc} {H0 H : Hp} {m : Mp} {S : Hs} {Q : VK} {E : XK}
theorem line_eq : sizeLine = 16777216 := sizeLine_eq
/-- a plain tuple is laid -/
theorem Post.newTup {ds : List D} {vs : List V} {p : Addr} (h : Post K H0 H m (relW K) Q E (.ok (.val (.tup ds)) S)) (r : Rl K H0 H m S) (q : RDs K H0 ds vs) (hp : H p = none) : Q (.ref p) (upd H p (.tup vs)) := by
  obtain ⟨x, y⟩ := r.new (o := .tup vs) hp
  exact h _ _ _ _ x y (RD.tup (Evl.st_of upd_same) (RDs.mono x.h0 q))
theorem Post.newLst {own : Bool} {ws : List W} {vs : List V} {p : Addr} (h : Post K H0 H m (relW K) Q E (mkLst own ws S)) (r : Rl K H0 H m S) (q : RWs K H0 m ws vs) (hp : H p = none) : Q (.ref p) (upd H p (.lst vs)) := by
  have cell : Post K H0 H m (relW K) Q E (.ok (.ref S.length) (S ++ [some (.lst ws)])) → Q (.ref p) (upd H p (.lst vs)) := fun h => by
    have mm : ∀ i a, m i = some a → m.put S.length p i = some a := fun i a e => by
      have := r.dom i a e
      unfold Mp.put
      rw [if_neg (by omega)]; exact e
    obtain ⟨x, y⟩ := r.newCell (o := .lst vs) (c := .lst ws) hp ⟨vs, upd_same, q.mono (fun _ _ z => z) mm⟩
    exact h _ _ _ _ x y ⟨p, by unfold Mp.put; rw [if_pos rfl], rfl⟩
  unfold mkLst at h
  by_cases hz : ws.length ≤ 16777216
  · rw [if_pos hz] at h
    cases own with
    | true => rw [if_pos rfl] at h; exact cell h
    | false =>
      rw [if_neg Bool.false_ne_true] at h
      cases e : vals? ws with
      | none => rw [e] at h; exact cell h
      | some ds =>
        rw [e] at h
        obtain ⟨x, y⟩ := r.new (o := .lst vs) hp
        exact h _ _ _ _ x y (RD.lst upd_same (RDs.mono x.h0 (vals?_rel e q)))
  · rw [if_neg hz] at h; exact h.elim
theorem Post.lenLst {own : Bool} {ws : List W} {vs : List V} (h : Post K H0 H m (relW K) Q E (mkLst own ws S)) (q : RWs K H0 m ws vs) : vs.length ≤ sizeLine := by
  unfold mkLst at h
  by_cases hz : ws.length ≤ 16777216
  · rw [line_eq, ← q.len]; exact hz
  · rw [if_neg hz] at h; exact h.elim

/-! ### they are sound -/
theorem se_var (i : Nat) : SE K w (tVar i) (evVar i) := fun ρ S σ H0 H m Q φ rl re h => by
  unfold evVar at h
  cases e : ρ[i]? with
  | none => rw [e] at h; exact h.elim
  | some o =>
    cases o with
    | none => rw [e] at h; exact h.elim
    | some x =>
      rw [e] at h
      obtain ⟨v, hv, rv⟩ := re.at_ i x e
      exact ⟨v, hv, h.now rl rv⟩
theorem se_c {d : D} {v : V} (r : ∀ H0, RD K H0 d v) : SE K w (tC v) (evC d) := fun ρ S σ H0 H m Q φ rl re h => h.now rl (r H0)
theorem se_int {i : Int} : SE K w (tC (.int i)) (evC (.int i)) := se_c fun _ => .int i
theorem se_bl {b : Bool} : SE K w (tC (.bl b)) (evC (.bl b)) := se_c fun _ => .bl b
theorem se_non : SE K w (tC .non) (evC .non) := se_c fun _ => .non
theorem se_str {s : Str} : SE K w (tC (.str s)) (evC (.str s)) := se_c fun _ => .str s
theorem se_op {r : R2} {g : W → W → Hs → R W} {ta tb : TE} {a b : Ev} (o : O2 K r g) (ha : SE K w ta a) (hb : SE K w tb b) : SE K w (tOp r ta tb) (evBin g a b) := fun ρ S σ H0 H m Q φ rl re h =>
  ha ρ S σ H0 H m _ φ rl re (h.bind fun x S1 A B n v _ xt rl1 r1 h1 => hb ρ S1 σ A B n _ (φ.on xt) rl1 (re.on xt) (h1.bind fun y S2 A2 B2 n2 u _ xt2 rl2 r2 h2 => o x y v u S2 A2 B2 n2 Q _ rl2 (r1.mono xt2.h0 xt2.mm) r2 h2))
theorem se_un {r : V → Hp → VK → Prop} {g : W → Hs → R W} {ta : TE} {a : Ev} (o : O1 K r g) (ha : SE K w ta a) : SE K w (tUn r ta) (evUn g a) := fun ρ S σ H0 H m Q φ rl re h =>
  ha ρ S σ H0 H m _ φ rl re (h.bind fun x S1 A B n v _ xt rl1 r1 h1 => o x v S1 A B n Q _ rl1 r1 h1)
theorem sa_nil : SA K w tNil eaNil := fun ρ S σ H0 H m Q φ rl re h => h.now rl .nil
theorem sa_cons {ta : TE} {t : TA} {a : Ev} {b : Ea} (ha : SE K w ta a) (hb : SA K w t b) : SA K w (tCons ta t) (eaCons a b) := fun ρ S σ H0 H m Q φ rl re h =>
  ha ρ S σ H0 H m _ φ rl re (h.bind fun x S1 A B n v _ xt rl1 r1 h1 => hb ρ S1 σ A B n _ (φ.on xt) rl1 (re.on xt) (h1.bind fun xs S2 A2 B2 n2 vs _ xt2 rl2 r2 h2 => h2.now rl2 (.cons (r1.mono xt2.h0 xt2.mm) r2)))
theorem se_cb {r : List V → Hp → VK → Prop} {g : List W → Hs → R W} {t : TA} {a : Ea} (o : OC K r g) (ha : SA K w t a) : SE K w (tCB r t) (evCB g a) := fun ρ S σ H0 H m Q φ rl re h =>
  ha ρ S σ H0 H m _ φ rl re (h.bind fun xs S1 A B n vs _ xt rl1 r1 h1 => o xs vs S1 A B n Q _ rl1 r1 h1)
theorem asB_use {x : W} {v : V} {Q : Bool → Hp → Prop} (r : RW K H0 m x v) (rl : Rl K H0 H m S) (h : Post K H0 H m relB Q E (asB x S)) : ∃ k, v = .bl k ∧ Q k H := by
  cases x with
  | ref i => exact h.elim
  | val d =>
    cases d with
    | bl b => cases r; exact ⟨b, rfl, h.now rl rfl⟩
    | _ => exact h.elim
theorem st_v {te : TE} {a : Ev} (ha : SE K w te a) : ST K w (tTest te) (etV a) := fun ρ S σ H0 H m Q φ rl re h =>
  ha ρ S σ H0 H m _ φ rl re (h.bind fun x S1 A B n v _ xt rl1 r1 h1 => asB_use r1 rl1 h1)
theorem st_b {te : TE} {a : Ev} (ha : SE K w te a) : ST K w (tB te) (etV a) := st_v ha
theorem st_and {t u : TT} {a b : Et} (ha : ST K w t a) (hb : ST K w u b) : ST K w (tAnd t u) (etAnd a b) := fun ρ S σ H0 H m Q φ rl re h =>
  ha ρ S σ H0 H m _ φ rl re (h.bind fun x S1 A B n v _ xt rl1 r1 h1 => by
    have e : x = v := r1
    subst e
    cases x with
    | true => rw [if_pos rfl] at h1 ⊢; exact hb ρ S1 σ A B n Q (φ.on xt) rl1 (re.on xt) h1
    | false => rw [if_neg Bool.false_ne_true] at h1 ⊢; exact h1.now rl1 rfl)
theorem st_or {t u : TT} {a b : Et} (ha : ST K w t a) (hb : ST K w u b) : ST K w (tOr t u) (etOr a b) := fun ρ S σ H0 H m Q φ rl re h =>
  ha ρ S σ H0 H m _ φ rl re (h.bind fun x S1 A B n v _ xt rl1 r1 h1 => by
    have e : x = v := r1
    subst e
    cases x with
    | true => rw [if_pos rfl] at h1 ⊢; exact h1.now rl1 rfl
    | false => rw [if_neg Bool.false_ne_true] at h1 ⊢; exact hb ρ S1 σ A B n Q (φ.on xt) rl1 (re.on xt) h1)
theorem st_not {t : TT} {a : Et} (ha : ST K w t a) : ST K w (tNot t) (etNot a) := fun ρ S σ H0 H m Q φ rl re h =>
  ha ρ S σ H0 H m _ φ rl re (h.bind fun x S1 A B n v _ xt rl1 r1 h1 => by
    have e : x = v := r1
    subst e
    exact h1.now rl1 rfl)
theorem se_and {ta tb : TE} {a b : Ev} (ha : SE K w ta a) (hb : SE K w tb b) : SE K w (tAndV ta tb) (evAnd a b) := fun ρ S σ H0 H m Q φ rl re h =>
  ha ρ S σ H0 H m _ φ rl re (h.bind fun x S1 A B n v _ xt rl1 r1 h1 => asB_use (Q := fun c H1 => if c = true then tb σ H1 Q else Q (.bl false) H1) r1 rl1 (h1.bind fun c S2 A2 B2 n2 b2 _ xt2 rl2 r2 h2 => by
    have e : c = b2 := r2
    subst e
    cases c with
    | true => rw [if_pos rfl] at h2 ⊢; exact hb ρ S2 σ A2 B2 n2 Q ((φ.on xt).on xt2) rl2 ((re.on xt).on xt2) h2
    | false => rw [if_neg Bool.false_ne_true] at h2 ⊢; exact h2.now rl2 (RD.bl false)))
theorem se_or {ta tb : TE} {a b : Ev} (ha : SE K w ta a) (hb : SE K w tb b) : SE K w (tOrV ta tb) (evOr a b) := fun ρ S σ H0 H m Q φ rl re h =>
  ha ρ S σ H0 H m _ φ rl re (h.bind fun x S1 A B n v _ xt rl1 r1 h1 => asB_use (Q := fun c H1 => if c = true then Q (.bl true) H1 else tb σ H1 Q) r1 rl1 (h1.bind fun c S2 A2 B2 n2 b2 _ xt2 rl2 r2 h2 => by
    have e : c = b2 := r2
    subst e
    cases c with
    | true => rw [if_pos rfl] at h2 ⊢; exact h2.now rl2 (RD.bl true)
    | false => rw [if_neg Bool.false_ne_true] at h2 ⊢; exact hb ρ S2 σ A2 B2 n2 Q ((φ.on xt).on xt2) rl2 ((re.on xt).on xt2) h2))
theorem se_not {ta : TE} {a : Ev} (ha : SE K w ta a) : SE K w (tNotV ta) (evNot a) := fun ρ S σ H0 H m Q φ rl re h =>
  ha ρ S σ H0 H m _ φ rl re (h.bind fun x S1 A B n v _ xt rl1 r1 h1 => asB_use (Q := fun c H1 => Q (.bl (!c)) H1) r1 rl1 (h1.bind fun c S2 A2 B2 n2 b2 _ xt2 rl2 r2 h2 => by
    have e : c = b2 := r2
    subst e
    exact h2.now rl2 (RD.bl _)))
theorem se_if {t : TT} {ta tb : TE} {c : Et} {a b : Ev} (hc : ST K w t c) (ha : SE K w ta a) (hb : SE K w tb b) : SE K w (tIf t ta tb) (evIf c a b) := fun ρ S σ H0 H m Q φ rl re h =>
  hc ρ S σ H0 H m _ φ rl re (h.bind fun x S1 A B n v _ xt rl1 r1 h1 => by
    have e : x = v := r1
    subst e
    cases x with
    | true => rw [if_pos rfl] at h1 ⊢; exact ha ρ S1 σ A B n Q (φ.on xt) rl1 (re.on xt) h1
    | false => rw [if_neg Bool.false_ne_true] at h1 ⊢; exact hb ρ S1 σ A B n Q (φ.on xt) rl1 (re.on xt) h1)
theorem se_tup {t : TA} {a : Ea} (ha : SA K w t a) : SE K w (tTup t) (evTup a) := fun ρ S σ H0 H m Q φ rl re h =>
  ha ρ S σ H0 H m _ φ rl re (h.bind fun xs S1 A B n vs _ xt rl1 r1 h1 => by
    unfold mkTup at h1
    cases e : vals? xs with
    | none => rw [e] at h1; exact h1.elim
    | some ds =>
      rw [e] at h1
      have rd := vals?_rel e r1
      by_cases hz : ds.length ≤ 16777216
      · dsimp only at h1
        rw [if_pos hz] at h1
        exact ⟨by rw [line_eq, ← rd.length]; exact hz, fun p hp => h1.newTup rl1 rd hp⟩
      · dsimp only at h1
        rw [if_neg hz] at h1; exact h1.elim)
theorem se_lst (own : Bool) {t : TA} {a : Ea} (ha : SA K w t a) : SE K w (tLst t) (evLst own a) := fun ρ S σ H0 H m Q φ rl re h =>
  ha ρ S σ H0 H m _ φ rl re (h.bind fun xs S1 A B n vs _ xt rl1 r1 h1 => ⟨h1.lenLst r1, fun p hp => h1.newLst rl1 r1 hp⟩)
end
end G

set_option Elab.async false
set_option linter.all false
set_option maxRecDepth 100000
set_option maxHeartbeats 1000000
/-! G2: operations on values. -/
namespace G
open PySem L2

inductive Sk where
  | l | t | s
  deriving DecidableEq
/-- a list's or a tuple's items -/
def look (x : W) (S : Hs) : Option (Sk × List W) := match x with
  | .val (.lst ds) => some (.l, ds.map .val)
  | .val (.tup ds) => some (.t, ds.map .val)
  | .val (.sq ds) => some (.s, ds.map .val)
  | .ref i => match S[i]? with
    | some (some (.lst ws)) => some (.l, ws)
    | _ => none
  | _ => none
section
variable {K : PySem.W.Frag} {w : Wc} {H0 H : Hp} {m : Mp} {S : Hs} {Q : VK} {E : XK}
structure Looked (K : PySem.W.Frag) (H0 H : Hp) (m : Mp) (k : Sk) (ws : List W) (v : V) (a : Addr) (vs : List V) : Prop where
  eq : v = .ref a
  rel : RWs K H0 m ws vs
  l : k = .l → H a = some (.lst vs)
  t : k = .t → SqT K H a vs
  s : k = .s → SqL K H a vs
theorem look_ok {x : W} {v : V} {k : Sk} {ws : List W} (e : look x S = some (k, ws)) (rl : Rl K H0 H m S) (r : RW K H0 m x v) : ∃ a vs, Looked K H0 H m k ws v a vs := by
  cases x with
  | ref i =>
    obtain ⟨a, ea, ev⟩ := r
    unfold look at e
    dsimp only at e
    cases q : S[i]? with
    | none => rw [q] at e; cases e
    | some o =>
      rw [q] at e
      cases o with
      | none => cases e
      | some c =>
        cases c with
        | ob c fs => cases e
        | lst us =>
          have e2 : (Sk.l, us) = (k, ws) := Option.some.inj e
          obtain ⟨rfl, rfl⟩ := Prod.mk.inj e2
          obtain ⟨b, eb, _, vs, hv, rv⟩ := rl.own i _ q
          rw [ea] at eb
          cases eb
          exact ⟨a, vs, ev, rv, fun _ => hv, (fun z => nomatch z), (fun z => nomatch z)⟩
  | val d =>
    cases d with
    | lst ds =>
      have e2 : (Sk.l, ds.map W.val) = (k, ws) := Option.some.inj e
      obtain ⟨rfl, rfl⟩ := Prod.mk.inj e2
      cases r with
      | @lst _ a vs h q => exact ⟨a, vs, rfl, q.toW, fun _ => rl.sub _ _ h, (fun z => nomatch z), (fun z => nomatch z)⟩
    | tup ds =>
      have e2 : (Sk.t, ds.map W.val) = (k, ws) := Option.some.inj e
      obtain ⟨rfl, rfl⟩ := Prod.mk.inj e2
      cases r with
      | @tup _ a vs h q => exact ⟨a, vs, rfl, q.toW, (fun z => nomatch z), fun _ => Evl.ex_t rl.sub h, (fun z => nomatch z)⟩
    | sq ds =>
      have e2 : (Sk.s, ds.map W.val) = (k, ws) := Option.some.inj e
      obtain ⟨rfl, rfl⟩ := Prod.mk.inj e2
      cases r with
      | @sq _ a vs h q => exact ⟨a, vs, rfl, q.toW, (fun z => nomatch z), (fun z => nomatch z), fun _ => Evl.ex_l rl.sub h⟩
    | _ => cases e
theorem Looked.seq {k : Sk} {ws : List W} {v : V} {a : Addr} {vs : List V} (L : Looked K H0 H m k ws v a vs) : SqL K H a vs ∨ SqT K H a vs := by
  cases k with
  | l => exact .inl (Evl.sq_of (L.l rfl))
  | t => exact .inr (L.t rfl)
  | s => exact .inl (L.s rfl)

/-! ### plus, times, minus .. -/
def catL (own : Bool) (x y : W) (S : Hs) : R W := match look x S, look y S with
  | some (.l, xs), some (.l, ys) => mkLst own (xs ++ ys) S
  | _, _ => .no
def gAdd (own : Bool) (x y : W) (S : Hs) : R W := match x, y with
  | .val (.int i), .val (.int j) => .ok (.val (.int (i + j))) S
  | .val (.str a), .val (.str b) => if a.length + b.length ≤ 16777216 then .ok (.val (.str (a ++ b))) S else .no
  | .val (.tup a), .val (.tup b) => if a.length + b.length ≤ 16777216 then .ok (.val (.tup (a ++ b))) S else .no
  | x, y => catL own x y S
abbrev rAddI : R2 := rI0 fun i j => .int (i + j)
abbrev rAddS : R2 := fun x y H Q => ∃ i j, x = .str i ∧ y = .str j ∧ i.length + j.length ≤ sizeLine ∧ Q (.str (i ++ j)) H
abbrev rPlus (K : PySem.W.Frag) : R2 := fun x y H Q => rAddI x y H Q ∨ (rAddS x y H Q ∨ (rCat x y H Q ∨ rCatA K x y H Q))
theorem op_plus {X : Cx} : OpR X (binaryOp .Add) (rPlus X.K) := op_add.or (op_add_str.or (op_cat.or op_catA))
theorem catL_ok {own : Bool} {x y : W} {v u : V} (rl : Rl K H0 H m S) (rx : RW K H0 m x v) (ry : RW K H0 m y u) (h : Post K H0 H m (relW K) Q E (catL own x y S)) : rCat v u H Q := by
  unfold catL at h
  cases e1 : look x S with
  | none => rw [e1] at h; exact h.elim
  | some p1 =>
    obtain ⟨k1, xs⟩ := p1
    rw [e1] at h
    cases e2 : look y S with
    | none => rw [e2] at h; cases k1 <;> exact h.elim
    | some p2 =>
      obtain ⟨k2, ys⟩ := p2
      rw [e2] at h
      obtain ⟨a, vs, L1⟩ := look_ok e1 rl rx
      obtain ⟨b, us, L2⟩ := look_ok e2 rl ry
      cases k1 with
      | s => exact h.elim
      | t => exact h.elim
      | l =>
        cases k2 with
        | l =>
          have h2 : Post K H0 H m (relW K) Q E (mkLst own (xs ++ ys) S) := h
          have z := h2.lenLst (L1.rel.app L2.rel)
          exact ⟨a, b, vs, us, L1.eq, L2.eq, L1.l rfl, L2.l rfl, by rw [← List.length_append]; exact z, fun p hp => h2.newLst rl (L1.rel.app L2.rel) hp⟩
        | t => exact h.elim
        | s => exact h.elim
theorem mkTup_use {xs : List W} (h : Post K H0 H m (relW K) Q E (mkTup xs S)) : ∃ ds, vals? xs = some ds ∧ ds.length ≤ 16777216 ∧ Post K H0 H m (relW K) Q E (.ok (.val (.tup ds)) S) := by
  unfold mkTup at h
  cases e : vals? xs with
  | none => rw [e] at h; exact h.elim
  | some ds =>
    rw [e] at h
    dsimp only at h
    by_cases hz : ds.length ≤ 16777216
    · rw [if_pos hz] at h; exact ⟨ds, rfl, hz, h⟩
    · rw [if_neg hz] at h; exact h.elim
theorem ite_no {c : Prop} [Decidable c] {r : R W} (h : Post K H0 H m (relW K) Q E (if c then r else .no)) : c ∧ Post K H0 H m (relW K) Q E r := by
  by_cases q : c
  · rw [if_pos q] at h; exact ⟨q, h⟩
  · rw [if_neg q] at h; exact h.elim
theorem o_add (own : Bool) : O2 K (rPlus K) (gAdd own) := by
  intro x y v u S H0 H m Q E rl rx ry h
  unfold gAdd at h
  split at h
  · cases rx; cases ry
    exact .inl ⟨_, _, rfl, rfl, h.now rl (RD.int _)⟩
  · cases rx; cases ry
    obtain ⟨c, h⟩ := ite_no h
    exact .inr (.inl ⟨_, _, rfl, rfl, by rw [line_eq]; exact c, h.now rl (RD.str _)⟩)
  · rename_i ds es
    obtain ⟨c, h⟩ := ite_no h
    cases rx with
    | @tup _ a vs h1 r1 =>
      cases ry with
      | @tup _ b us h2 r2 =>
        refine .inr (.inr (.inr ⟨a, b, vs, us, rfl, rfl, Evl.ex_t rl.sub h1, Evl.ex_t rl.sub h2, by rw [← r1.length, ← r2.length, line_eq]; exact c, fun e => ?_, fun _ e => ?_, fun _ _ p hp => h.newTup rl (r1.append r2) hp⟩))
        · subst e
          have z : ds = [] := List.eq_nil_of_length_eq_zero (by rw [r1.length]; rfl)
          subst z
          exact h.now rl (RD.tup h2 r2)
        · subst e
          have z : es = [] := List.eq_nil_of_length_eq_zero (by rw [r2.length]; rfl)
          subst z
          rw [List.append_nil] at h
          exact h.now rl (RD.tup h1 r1)
  · exact .inr (.inr (.inl (catL_ok rl rx ry h)))
def gMinus (x y : W) (S : Hs) : R W := match x, y with
  | .val (.int i), .val (.int j) => .ok (.val (.int (i - j))) S
  | _, _ => .no
theorem o_sub : O2 K (rI0 fun i j => .int (i - j)) gMinus := by
  intro x y v u S H0 H m Q E rl rx ry h
  unfold gMinus at h
  split at h
  · cases rx; cases ry; exact ⟨_, _, rfl, rfl, h.now rl (RD.int _)⟩
  · exact h.elim
instance {i j : Int} : Decidable (CMulW i j) := by unfold CMulW; infer_instance
instance {i j : Int} : Decidable (CDivW i j) := by unfold CDivW; infer_instance
instance {i j : Int} : Decidable (CPow i j) := by unfold CPow; infer_instance
abbrev rTimes : R2 := fun x y H Q => rI CMulW (fun i j => .int (i * j)) x y H Q ∨ rRep x y H Q
theorem op_times {X : Cx} : OpR X (binaryOp .Mult) rTimes := op_mulW.or op_rep
def repL (own : Bool) (x : W) (k : Int) (S : Hs) : R W := match look x S with
  | some (.l, xs) => if -(2 ^ 63) ≤ k ∧ k < 2 ^ 63 then mkLst own (List.replicate k.toNat xs).flatten S else .no
  | _ => .no
def gMul (own : Bool) (x y : W) (S : Hs) : R W := match x, y with
  | .val (.int i), .val (.int j) => if CMulW i j then .ok (.val (.int (i * j))) S else .no
  | x, .val (.int k) => repL own x k S
  | _, _ => .no
theorem RWs.rep {xs : List W} {vs : List V} (h : RWs K H0 m xs vs) (n : Nat) : RWs K H0 m (List.replicate n xs).flatten (List.replicate n vs).flatten := by
  induction n with
  | zero => exact .nil
  | succ n ih => rw [List.replicate_succ, List.replicate_succ, List.flatten_cons, List.flatten_cons]; exact h.app ih
theorem len_rep {α : Type} (xs : List α) (n : Nat) : (List.replicate n xs).flatten.length = xs.length * n := by
  induction n with
  | zero => rfl
  | succ n ih => rw [List.replicate_succ, List.flatten_cons, List.length_append, ih, Nat.mul_succ, Nat.add_comm]
theorem repL_ok {own : Bool} {x : W} {v : V} {k : Int} (rl : Rl K H0 H m S) (rx : RW K H0 m x v) (h : Post K H0 H m (relW K) Q E (repL own x k S)) : rRep v (.int k) H Q := by
  unfold repL at h
  split at h
  · rename_i xs e1
    obtain ⟨c, h⟩ := ite_no h
    obtain ⟨a, vs, L⟩ := look_ok e1 rl rx
    have z := h.lenLst (L.rel.rep k.toNat)
    rw [len_rep] at z
    exact ⟨a, k, vs, L.eq, rfl, L.l rfl, c.1, c.2, z, fun p hp => h.newLst rl (L.rel.rep k.toNat) hp⟩
  · exact h.elim
theorem o_mul (own : Bool) : O2 K rTimes (gMul own) := by
  intro x y v u S H0 H m Q E rl rx ry h
  unfold gMul at h
  split at h
  · cases rx; cases ry
    obtain ⟨c, h⟩ := ite_no h
    exact .inl ⟨_, _, rfl, rfl, c, h.now rl (RD.int _)⟩
  · cases ry
    exact .inr (repL_ok rl rx h)
  · exact h.elim
def gDiv (x y : W) (S : Hs) : R W := match x, y with
  | .val (.int i), .val (.int j) => if CDivW i j then .ok (.val (.int (i / j))) S else .no
  | _, _ => .no
theorem o_div : O2 K (rI CDivW fun i j => .int (i / j)) gDiv := by
  intro x y v u S H0 H m Q E rl rx ry h
  unfold gDiv at h
  split at h
  · cases rx; cases ry
    obtain ⟨c, h⟩ := ite_no h
    exact ⟨_, _, rfl, rfl, c, h.now rl (RD.int _)⟩
  · exact h.elim
def gMod (x y : W) (S : Hs) : R W := match x, y with
  | .val (.int i), .val (.int j) => if 0 < j then .ok (.val (.int (i % j))) S else .no
  | _, _ => .no
theorem o_mod : O2 K (rI (fun _ j => 0 < j) fun i j => .int (i % j)) gMod := by
  intro x y v u S H0 H m Q E rl rx ry h
  unfold gMod at h
  split at h
  · cases rx; cases ry
    obtain ⟨c, h⟩ := ite_no h
    exact ⟨_, _, rfl, rfl, c, h.now rl (RD.int _)⟩
  · exact h.elim
def gPow (x y : W) (S : Hs) : R W := match x, y with
  | .val (.int i), .val (.int j) => if CPow i j then .ok (.val (.int (i ^ j.toNat))) S else .no
  | _, _ => .no
theorem o_pow : O2 K (rI CPow fun i j => .int (i ^ j.toNat)) gPow := by
  intro x y v u S H0 H m Q E rl rx ry h
  unfold gPow at h
  split at h
  · cases rx; cases ry
    obtain ⟨c, h⟩ := ite_no h
    exact ⟨_, _, rfl, rfl, c, h.now rl (RD.int _)⟩
  · exact h.elim
def gNeg (x : W) (S : Hs) : R W := match x with
  | .val (.int i) => .ok (.val (.int (-i))) S
  | _ => .no
theorem o_neg : O1 K (rU fun i => .int (-i)) gNeg := by
  intro x v S H0 H m Q E rl rx h
  unfold gNeg at h
  split at h
  · cases rx; exact ⟨_, rfl, h.now rl (RD.int _)⟩
  · exact h.elim

/-! ### comparisons -/
def gCmp (p : Int → Int → Bool) (x y : W) (S : Hs) : R W := match x, y with
  | .val (.int i), .val (.int j) => .ok (.val (.bl (p i j))) S
  | _, _ => .no
theorem o_cmp (p : Int → Int → Bool) : O2 K (rI0 fun i j => .bl (p i j)) (gCmp p) := by
  intro x y v u S H0 H m Q E rl rx ry h
  unfold gCmp at h
  split at h
  · cases rx; cases ry; exact ⟨_, _, rfl, rfl, h.now rl (RD.bl _)⟩
  · exact h.elim
/-- a value that is no object -/
def flatD : W → Option V
  | .val .non => some .non
  | .val (.bl b) => some (.bl b)
  | .val (.int i) => some (.int i)
  | .val (.str s) => some (.str s)
  | _ => none
theorem flatD_ok {x : W} {v u : V} (e : flatD x = some u) (r : RW K H0 m x v) : v = u ∧ flatV v = true := by
  unfold flatD at e
  split at e <;> first | (cases r; cases e; exact ⟨rfl, rfl⟩) | cases e
mutual
def toPy : D → Option PyData
  | .non => some .none
  | .bl b => some (.bool b)
  | .int i => some (.int i)
  | .str s => some (.str s)
  | .tup xs => (toPys xs).map .tuple
  | .lst xs => (toPys xs).map .list
  | .sq xs => (toPys xs).map .list
  | _ => none
def toPys : List D → Option (List PyData)
  | [] => some []
  | x :: xs => match toPy x, toPys xs with
    | some d, some ds => some (d :: ds)
    | _, _ => none
end
def allSome {α β : Type} (f : α → Option β) : List α → Option (List β)
  | [] => some []
  | x :: xs => match f x, allSome f xs with
    | some d, some ds => some (d :: ds)
    | _, _ => none
def pyW (S : Hs) : Nat → W → Option PyData
  | _, .val d => toPy d
  | 0, .ref _ => none
  | n + 1, .ref i => match S[i]? with
    | some (some (.lst ws)) => (allSome (pyW S n) ws).map .list
    | _ => none
mutual
theorem toPy_ok (e0 : Evl.Ex H0 H) : ∀ {d : D} {v : V} {p : PyData}, toPy d = some p → RD K H0 d v → Dp K H v p
  | .non, _, _, e, .non => by cases e; exact .non
  | .bl b, _, _, e, .bl _ => by cases e; exact .bl b
  | .int i, _, _, e, .int _ => by cases e; exact .int i
  | .str s, _, _, e, .str _ => by cases e; exact .str s
  | .tup xs, _, p, e, .tup a r => by
    have e2 : (toPys xs).map PyData.tuple = some p := e
    cases q : toPys xs with
    | none => rw [q] at e2; cases e2
    | some ds => rw [q] at e2; cases e2; exact .tup (Evl.ex_t e0 a) (toPys_ok e0 q r)
  | .lst xs, _, p, e, .lst a r => by
    have e2 : (toPys xs).map PyData.list = some p := e
    cases q : toPys xs with
    | none => rw [q] at e2; cases e2
    | some ds => rw [q] at e2; cases e2; exact .lst (Evl.sq_of (e0 _ _ a)) (toPys_ok e0 q r)
  | .sq xs, _, p, e, .sq a r => by
    have e2 : (toPys xs).map PyData.list = some p := e
    cases q : toPys xs with
    | none => rw [q] at e2; cases e2
    | some ds => rw [q] at e2; cases e2; exact .lst (Evl.ex_l e0 a) (toPys_ok e0 q r)
  | .obj _ _, _, _, e, _ => by cases e
  | .cls _, _, _, e, _ => by cases e
theorem toPys_ok (e0 : Evl.Ex H0 H) : ∀ {ds : List D} {vs : List V} {ps : List PyData}, toPys ds = some ps → RDs K H0 ds vs → DpAll K H vs ps
  | [], _, _, e, .nil => by cases e; exact .nil
  | d :: ds, _, ps, e, .cons a r => by
    have e2 : (match toPy d, toPys ds with
    | some d, some ds => some (d :: ds)
    | _, _ => none) = some ps := e
    cases q1 : toPy d with
    | none => rw [q1] at e2; cases e2
    | some p =>
      rw [q1] at e2
      cases q2 : toPys ds with
      | none => rw [q2] at e2; cases e2
      | some qs => rw [q2] at e2; cases e2; exact .cons (toPy_ok e0 q1 a) (toPys_ok e0 q2 r)
end
theorem allSome_ok {f : W → Option PyData} (hf : ∀ x v p, f x = some p → RW K H0 m x v → Dp K H v p) : ∀ {ws : List W} {vs : List V} {ps : List PyData}, allSome f ws = some ps → RWs K H0 m ws vs → DpAll K H vs ps
  | [], _, _, e, .nil => by cases e; exact .nil
  | x :: xs, _, ps, e, .cons a r => by
    have e2 := e
    simp only [allSome] at e2
    cases q1 : f x with
    | none => rw [q1] at e2; cases e2
    | some p =>
      rw [q1] at e2
      cases q2 : allSome f xs with
      | none => rw [q2] at e2; cases e2
      | some qs => rw [q2] at e2; cases e2; exact .cons (hf _ _ _ q1 a) (allSome_ok hf q2 r)
theorem pyW_ok (rl : Rl K H0 H m S) : ∀ (n : Nat) (x : W) (v : V) (p : PyData), pyW S n x = some p → RW K H0 m x v → Dp K H v p
  | n, .val d, v, p, e, r => by
    have e2 : toPy d = some p := by cases n <;> exact e
    exact toPy_ok rl.sub e2 r
  | 0, .ref i, v, p, e, r => by cases e
  | n + 1, .ref i, v, p, e, r => by
    have e2 : (match S[i]? with
    | some (some (.lst ws)) => (allSome (pyW S n) ws).map PyData.list
    | _ => none) = some p := e
    obtain ⟨a, ea, ev⟩ := r
    cases q : S[i]? with
    | none => rw [q] at e2; cases e2
    | some o =>
      rw [q] at e2
      cases o with
      | none => cases e2
      | some c =>
        cases c with
        | ob c fs => cases e2
        | lst ws =>
          have e3 : (allSome (pyW S n) ws).map PyData.list = some p := e2
          obtain ⟨b, eb, _, vs, hv, rv⟩ := rl.own i _ q
          rw [ea] at eb; cases eb
          subst ev
          cases q2 : allSome (pyW S n) ws with
          | none => rw [q2] at e3; cases e3
          | some ds => rw [q2] at e3; cases e3; exact .lst (Evl.sq_of hv) (allSome_ok (pyW_ok rl n) q2 rv)
abbrev rEqS (K : PySem.W.Frag) : R2 := fun x y H Q => rEq x y H Q ∨ rEqD K x y H Q
abbrev rNeS (K : PySem.W.Frag) : R2 := fun x y H Q => rNe x y H Q ∨ rNeD K x y H Q
theorem op_eqS {X : Cx} (hu : X.A.units + 64 < cLine) : OpR X (compareOp .Eq) (rEqS X.K) := op_eq.or (op_eqD hu)
theorem op_neS {X : Cx} (hu : X.A.units + 64 < cLine) : OpR X (compareOp .NotEq) (rNeS X.K) := op_ne.or (op_neD hu)
/-- == of two values, none of them an object of an own class -/
def eqW (x y : W) (S : Hs) : Option Bool := match flatD x, flatD y with
  | some v, some u => if scal v u = true then some (decide (v = u)) else none
  | _, _ => match pyW S 8 x, pyW S 8 y with
    | some d, some e => if SeqAt.shaped d = true ∧ SeqAt.shaped e = true then some (PyData.eqv d e) else none
    | _, _ => none
def gEq (x y : W) (S : Hs) : R W := match eqW x y S with
  | some b => .ok (.val (.bl b)) S
  | none => .no
def gNe (x y : W) (S : Hs) : R W := match eqW x y S with
  | some b => .ok (.val (.bl (!b))) S
  | none => .no
theorem eqW_ok {x y : W} {v u : V} {b : Bool} (e : eqW x y S = some b) (rl : Rl K H0 H m S) (rx : RW K H0 m x v) (ry : RW K H0 m y u) :
    (scal v u = true ∧ decide (v = u) = b) ∨ ∃ d e, Dp K H v d ∧ Dp K H u e ∧ SeqAt.shaped d = true ∧ SeqAt.shaped e = true ∧ PyData.eqv d e = b := by
  unfold eqW at e
  split at e
  · rename_i v' u' e1 e2
    obtain ⟨h1, _⟩ := flatD_ok e1 rx
    obtain ⟨h2, _⟩ := flatD_ok e2 ry
    subst h1 h2
    by_cases q : scal v u = true
    · rw [if_pos q] at e; exact .inl ⟨q, Option.some.inj e⟩
    · rw [if_neg q] at e; cases e
  · split at e
    · rename_i d e' q1 q2
      by_cases q : SeqAt.shaped d = true ∧ SeqAt.shaped e' = true
      · rw [if_pos q] at e
        exact .inr ⟨d, e', pyW_ok rl 8 x v d q1 rx, pyW_ok rl 8 y u e' q2 ry, q.1, q.2, Option.some.inj e⟩
      · rw [if_neg q] at e; cases e
    · cases e
theorem o_eq : O2 K (rEqS K) gEq := by
  intro x y v u S H0 H m Q E rl rx ry h
  unfold gEq at h
  split at h
  · rename_i b e
    have q := h.now rl (RD.bl b)
    rcases eqW_ok e rl rx ry with ⟨h1, h2⟩ | ⟨d, e', h1, h2, h3, h4, h5⟩
    · exact .inl ⟨h1, by rw [h2]; exact q⟩
    · exact .inr ⟨d, e', h1, h2, h3, h4, by rw [h5]; exact q⟩
  · exact h.elim
theorem o_ne : O2 K (rNeS K) gNe := by
  intro x y v u S H0 H m Q E rl rx ry h
  unfold gNe at h
  split at h
  · rename_i b e
    have q := h.now rl (RD.bl (!b))
    rcases eqW_ok e rl rx ry with ⟨h1, h2⟩ | ⟨d, e', h1, h2, h3, h4, h5⟩
    · exact .inl ⟨h1, by rw [h2]; exact q⟩
    · exact .inr ⟨d, e', h1, h2, h3, h4, by rw [h5]; exact q⟩
  · exact h.elim
/-- x is None -/
def isNon : W → Bool
  | .val .non => true
  | _ => false
theorem isNon_ok {x : W} {v : V} (r : RW K H0 m x v) : decide (v = .non) = isNon x := by
  cases x with
  | ref i => obtain ⟨a, _, rfl⟩ := r; rfl
  | val d => cases d <;> (cases r <;> rfl)
def gIsN (x y : W) (S : Hs) : R W := match y with
  | .val .non => .ok (.val (.bl (isNon x))) S
  | _ => .no
def gNotN (x y : W) (S : Hs) : R W := match y with
  | .val .non => .ok (.val (.bl (!isNon x))) S
  | _ => .no
theorem o_isN : O2 K (fun x y H Q => y = .non ∧ Q (.bl (decide (x = .non))) H) gIsN := by
  intro x y v u S H0 H m Q E rl rx ry h
  unfold gIsN at h
  split at h
  · cases ry
    exact ⟨rfl, by rw [isNon_ok rx]; exact h.now rl (RD.bl _)⟩
  · exact h.elim
theorem o_notN : O2 K (fun x y H Q => y = .non ∧ Q (.bl (!decide (x = .non))) H) gNotN := by
  intro x y v u S H0 H m Q E rl rx ry h
  unfold gNotN at h
  split at h
  · cases ry
    exact ⟨rfl, by rw [isNon_ok rx]; exact h.now rl (RD.bl _)⟩
  · exact h.elim
def gIsB (neg : Bool) (x y : W) (S : Hs) : R W := match x, y with
  | .val (.bl a), .val (.bl b) => .ok (.val (.bl (if neg = true then !decide (a = b) else decide (a = b)))) S
  | _, _ => .no
theorem o_isB : O2 K rIsB (gIsB false) := by
  intro x y v u S H0 H m Q E rl rx ry h
  unfold gIsB at h
  split at h
  · cases rx; cases ry; exact ⟨_, _, rfl, rfl, h.now rl (RD.bl _)⟩
  · exact h.elim
theorem o_notB : O2 K rNotB (gIsB true) := by
  intro x y v u S H0 H m Q E rl rx ry h
  unfold gIsB at h
  split at h
  · cases rx; cases ry; exact ⟨_, _, rfl, rfl, h.now rl (RD.bl _)⟩
  · exact h.elim
/-- x in xs, all of them no objects -/
def gIn (neg : Bool) (x y : W) (S : Hs) : R W := match flatD x, look y S with
  | some v, some (_, ws) => match allSome flatD ws with
    | some vs => .ok (.val (.bl (if neg = true then !inV v vs else inV v vs))) S
    | none => .no
  | _, _ => .no
theorem flats_ok : ∀ {ws : List W} {vs us : List V}, allSome flatD ws = some us → RWs K H0 m ws vs → vs = us ∧ vs.all flatV = true
  | [], _, _, e, .nil => by cases e; exact ⟨rfl, rfl⟩
  | x :: xs, _, us, e, .cons a r => by
    have e2 := e
    simp only [allSome] at e2
    cases q1 : flatD x with
    | none => rw [q1] at e2; cases e2
    | some p =>
      rw [q1] at e2
      cases q2 : allSome flatD xs with
      | none => rw [q2] at e2; cases e2
      | some qs =>
        rw [q2] at e2; cases e2
        obtain ⟨z1, z2⟩ := flatD_ok q1 a
        obtain ⟨y1, y2⟩ := flats_ok q2 r
        exact ⟨by rw [z1, y1], by rw [List.all_cons, z2, y2]; rfl⟩
theorem o_in (neg : Bool) : O2 K (rIn K neg) (gIn neg) := by
  intro x y v u S H0 H m Q E rl rx ry h
  unfold gIn at h
  split at h
  · rename_i v' k ws e1 e2
    split at h
    · rename_i vs' e3
      obtain ⟨z1, z2⟩ := flatD_ok e1 rx
      obtain ⟨a, vs, L⟩ := look_ok e2 rl ry
      obtain ⟨y1, y2⟩ := flats_ok e3 L.rel
      subst z1 y1
      refine ⟨a, vs, L.eq, L.seq, z2, y2, ?_⟩
      exact h.now rl (RD.bl _)
    · exact h.elim
  · exact h.elim

/-! ### items, slices -/
def gIx (x y : W) (S : Hs) : R W := match x, y with
  | .val (.str z), .val (.int i) => if z.length ≤ 16777216 then (match atI z.cps.toList i with
    | some c => .ok (.val (.str ⟨#[c]⟩)) S
    | none => .no) else .no
  | x, .val (.int i) => match look x S with
    | some (_, ws) => match atI ws i with
      | some w => .ok w S
      | none => .no
    | none => .no
  | _, _ => .no
theorem RWs.atI {ws : List W} {vs : List V} (h : RWs K H0 m ws vs) {i : Int} {x : W} (e : L2.atI ws i = some x) : ∃ v, L2.atI vs i = some v ∧ RW K H0 m x v := by
  unfold L2.atI at e ⊢
  rw [← h.len]
  cases q : ixN ws.length i with
  | none => rw [q] at e; cases e
  | some j =>
    rw [q] at e
    exact h.get e
theorem o_ix : O2 K (rIx K) gIx := by
  intro x y v u S H0 H m Q E rl rx ry h
  unfold gIx at h
  split at h
  · obtain ⟨c, h⟩ := ite_no h
    cases rx; cases ry
    split at h
    · rename_i e
      exact .inr (.inr ⟨_, _, _, rfl, rfl, by rw [line_eq]; exact c, e, h.now rl (RD.str _)⟩)
    · exact h.elim
  · cases ry
    split at h
    · rename_i k ws e1
      split at h
      · rename_i w' e2
        obtain ⟨a, vs, L⟩ := look_ok e1 rl rx
        obtain ⟨v', e3, r3⟩ := L.rel.atI e2
        have q := h.now rl r3
        rcases L.seq with z | z
        · exact .inl ⟨a, vs, _, v', L.eq, rfl, z, e3, q⟩
        · exact .inr (.inl ⟨a, vs, _, v', L.eq, rfl, z, e3, q⟩)
      · exact h.elim
    · exact h.elim
  · exact h.elim
/-- x[lo:hi] -/
def cutW {α : Type} (xs : List α) (lo hi : Option Int) : List α := (xs.drop (HT.sIx xs.length 0 lo)).take (HT.sIx xs.length xs.length hi - HT.sIx xs.length 0 lo)
def gSl (own : Bool) (x : W) (lo hi : Option Int) (S : Hs) : R W := match x with
  | .val (.tup ds) => .ok (.val (.tup (cutW ds lo hi))) S
  | x => match look x S with
    | some (.l, ws) => mkLst own (cutW ws lo hi) S
    | _ => .no
abbrev rSlS (K : PySem.W.Frag) : V → Option Int → Option Int → Hp → VK → Prop := fun x lo hi H Q => rSlL K x lo hi H Q ∨ rSlA K x lo hi H Q
theorem sl_seq {X : Cx} : SlR X (rSlS X.K) := sl_list.or sl_tupA
theorem RDs.cut {ds : List D} {vs : List V} (h : RDs K H0 ds vs) (lo hi : Option Int) : RDs K H0 (cutW ds lo hi) (cutV vs lo hi) := by
  unfold cutW cutV
  rw [h.length]
  exact (h.drop _).take _
theorem RWs.cut {ds : List W} {vs : List V} (h : RWs K H0 m ds vs) (lo hi : Option Int) : RWs K H0 m (cutW ds lo hi) (cutV vs lo hi) := by
  unfold cutW cutV
  rw [h.len]
  exact (RWs.drop h _).take _
theorem o_sl (own : Bool) {x : W} {v : V} {lo hi : Option Int} (rl : Rl K H0 H m S) (rx : RW K H0 m x v) (h : Post K H0 H m (relW K) Q E (gSl own x lo hi S)) : rSlS K v lo hi H Q := by
  unfold gSl at h
  split at h
  · rename_i ds
    cases rx with
    | @tup _ a vs h1 r1 =>
      refine .inr ⟨a, vs, rfl, Evl.ex_t rl.sub h1, fun e => ?_, fun _ p hp => h.newTup rl (r1.cut lo hi) hp⟩
      have z : cutW ds lo hi = ds := by
        unfold cutW
        rw [r1.length, e.1, e.2, ← r1.length]
        simp
      rw [z] at h
      exact h.now rl (RD.tup h1 r1)
  · split at h
    · rename_i ws e1
      obtain ⟨a, vs, L⟩ := look_ok e1 rl rx
      exact .inl ⟨a, vs, L.eq, Evl.sq_of (L.l rfl), fun p hp => h.newLst rl (L.rel.cut lo hi) hp⟩
    · exact h.elim
def eoNone : Eo := fun _ S => .ok none S
def eoSome (a : Ev) : Eo := fun ρ S => (a ρ S).bind fun x S1 => match x with
  | .val (.int i) => .ok (some i) S1
  | _ => .no
def evSl (own : Bool) (a : Ev) (lo hi : Eo) : Ev := fun ρ S => (a ρ S).bind fun x S1 => (lo ρ S1).bind fun l S2 => (hi ρ S2).bind fun u S3 => gSl own x l u S3
theorem so_none : SO K w tNoPart eoNone := fun ρ S σ H0 H m Q φ rl re h => h.now rl rfl
theorem so_some {te : TE} {a : Ev} (ha : SE K w te a) : SO K w (tPart te) (eoSome a) := fun ρ S σ H0 H m Q φ rl re h =>
  ha ρ S σ H0 H m _ φ rl re (h.bind fun x S1 A B n v _ xt rl1 r1 h1 => by
    split at h1
    · cases r1; exact ⟨_, rfl, h1.now rl1 rfl⟩
    · exact h1.elim)
theorem se_sl (own : Bool) {te : TE} {tl th : TOp} {a : Ev} {lo hi : Eo} (ha : SE K w te a) (hl : SO K w tl lo) (hh : SO K w th hi) : SE K w (tSl (rSlS K) te tl th) (evSl own a lo hi) := fun ρ S σ H0 H m Q φ rl re h =>
  ha ρ S σ H0 H m _ φ rl re (h.bind fun x S1 A B n v _ xt rl1 r1 h1 => hl ρ S1 σ A B n _ (φ.on xt) rl1 (re.on xt) (h1.bind fun l S2 A2 B2 n2 l' _ xt2 rl2 r2 h2 => hh ρ S2 σ A2 B2 n2 _ ((φ.on xt).on xt2) rl2 ((re.on xt).on xt2) (h2.bind fun u S3 A3 B3 n3 u' _ xt3 rl3 r3 h3 => by
    have e2 : l = l' := r2
    have e3 : u = u' := r3
    subst e2 e3
    exact o_sl own rl3 ((r1.mono xt2.h0 xt2.mm).mono xt3.h0 xt3.mm) h3)))

/-! ### len, int, min, max, list, tuple, all, any -/
def gLen (xs : List W) (S : Hs) : R W := match xs with
  | [.val (.str z)] => if z.length ≤ 16777216 then .ok (.val (.int z.length)) S else .no
  | [x] => match look x S with
    | some (_, ws) => .ok (.val (.int ws.length)) S
    | none => .no
  | _ => .no
abbrev rLenA (K : PySem.W.Frag) : List V → Hp → VK → Prop := fun xs H Q => ∃ x n, xs = [x] ∧ LenV K x H n ∧ Q (.int n) H
theorem oc_len : OC K (rLenA K) gLen := by
  intro xs vs S H0 H m Q E rl r h
  unfold gLen at h
  split at h
  · obtain ⟨c, h⟩ := ite_no h
    cases r with | cons a r => cases r; cases a; exact ⟨_, _, rfl, ⟨by rw [line_eq]; exact c, rfl⟩, h.now rl (RD.int _)⟩
  · cases r with
    | cons a r =>
      cases r
      split at h
      · rename_i k ws e
        obtain ⟨b, us, L⟩ := look_ok e rl a
        have q := h.now rl (RD.int _)
        refine ⟨_, us.length, rfl, ?_, by rw [← L.rel.len]; exact q⟩
        rw [L.eq]
        rcases L.seq with z | z
        · exact .inl ⟨us, z, rfl⟩
        · exact .inr ⟨us, z, rfl⟩
      · exact h.elim
  · exact h.elim
def gInt (xs : List W) (S : Hs) : R W := match xs with
  | [.val (.int i)] => .ok (.val (.int i)) S
  | _ => .no
theorem oc_int : OC K (fun xs H Q => (∃ i, xs = [.int i] ∧ Q (.int i) H) ∨ ∃ k, xs = [.bl k] ∧ Q (.int (if k then 1 else 0)) H) gInt := by
  intro xs vs S H0 H m Q E rl r h
  unfold gInt at h
  split at h
  · cases r with | cons a r => cases r; cases a; exact .inl ⟨_, rfl, h.now rl (RD.int _)⟩
  · exact h.elim
def gMin2 (xs : List W) (S : Hs) : R W := match xs with
  | [.val (.int i), .val (.int j)] => .ok (.val (.int (if j < i then j else i))) S
  | _ => .no
theorem oc_min2 : OC K (fun xs H Q => ∃ i j, xs = [.int i, .int j] ∧ Q (.int (if j < i then j else i)) H) gMin2 := by
  intro xs vs S H0 H m Q E rl r h
  unfold gMin2 at h
  split at h
  · cases r with | cons a r => cases r with | cons b r => cases r; cases a; cases b; exact ⟨_, _, rfl, h.now rl (RD.int _)⟩
  · exact h.elim
def gMax2 (xs : List W) (S : Hs) : R W := match xs with
  | [.val (.int i), .val (.int j)] => .ok (.val (.int (if j > i then j else i))) S
  | _ => .no
theorem oc_max2 : OC K (fun xs H Q => ∃ i j, xs = [.int i, .int j] ∧ Q (.int (if j > i then j else i)) H) gMax2 := by
  intro xs vs S H0 H m Q E rl r h
  unfold gMax2 at h
  split at h
  · cases r with | cons a r => cases r with | cons b r => cases r; cases a; cases b; exact ⟨_, _, rfl, h.now rl (RD.int _)⟩
  · exact h.elim
def gList (own : Bool) (xs : List W) (S : Hs) : R W := match xs with
  | [x] => match look x S with
    | some (_, ws) => mkLst own ws S
    | none => .no
  | _ => .no
abbrev rListA (K : PySem.W.Frag) : List V → Hp → VK → Prop := fun xs H Q => ∃ p ys, xs = [.ref p] ∧ (SqL K H p ys ∨ SqT K H p ys) ∧ ∀ l, H l = none → Q (.ref l) (upd H l (.lst ys))
theorem oc_list (own : Bool) : OC K (rListA K) (gList own) := by
  intro xs vs S H0 H m Q E rl r h
  unfold gList at h
  split at h
  · cases r with
    | cons a r =>
      cases r
      split at h
      · rename_i k ws e
        obtain ⟨b, us, L⟩ := look_ok e rl a
        exact ⟨b, us, by rw [L.eq], L.seq, fun p hp => h.newLst rl L.rel hp⟩
      · exact h.elim
  · exact h.elim
def gTuple (xs : List W) (S : Hs) : R W := match xs with
  | [.val (.tup ds)] => .ok (.val (.tup ds)) S
  | [x] => match look x S with
    | some (.t, _) => .no
    | some (_, ws) => mkTup ws S
    | none => .no
  | _ => .no
abbrev rTupleA (K : PySem.W.Frag) : List V → Hp → VK → Prop := fun xs H Q => ∃ p ys, xs = [.ref p] ∧ ((SqL K H p ys ∧ ∀ l, H l = none → Q (.ref l) (upd H l (.tup ys))) ∨ (SqT K H p ys ∧ Q (.ref p) H))
theorem oc_tuple : OC K (rTupleA K) gTuple := by
  intro xs vs S H0 H m Q E rl r h
  unfold gTuple at h
  split at h
  · cases r with
    | cons a r =>
      cases r
      cases a with
      | @tup ds b us h1 r1 => exact ⟨b, us, rfl, .inr ⟨Evl.ex_t rl.sub h1, h.now rl (RD.tup h1 r1)⟩⟩
  · cases r with
    | cons a r =>
      cases r
      split at h
      · exact h.elim
      · rename_i k ws nt e
        obtain ⟨b, us, L⟩ := look_ok e rl a
        obtain ⟨ds, ed, hz, h3⟩ := mkTup_use h
        have rd := vals?_rel ed L.rel
        refine ⟨b, us, by rw [L.eq], .inl ⟨?_, fun p hp => h3.newTup rl rd hp⟩⟩
        cases k with
        | l => exact Evl.sq_of (L.l rfl)
        | s => exact L.s rfl
        | t => exact (nt rfl).elim
      · exact h.elim
  · exact h.elim
def boolD : W → Option Bool
  | .val (.bl b) => some b
  | _ => none
theorem bools_ok : ∀ {ws : List W} {vs : List V} {bs : List Bool}, allSome boolD ws = some bs → RWs K H0 m ws vs → vs = bs.map V.bl
  | [], _, _, e, .nil => by cases e; rfl
  | x :: xs, _, us, e, .cons a r => by
    have e2 := e
    simp only [allSome] at e2
    cases q1 : boolD x with
    | none => rw [q1] at e2; cases e2
    | some p =>
      rw [q1] at e2
      cases q2 : allSome boolD xs with
      | none => rw [q2] at e2; cases e2
      | some qs =>
        rw [q2] at e2; cases e2
        have z : x = .val (.bl p) := by
          unfold boolD at q1
          split at q1
          · cases q1; rfl
          · cases q1
        subst z
        cases a
        rw [bools_ok q2 r]; rfl
def gAll (xs : List W) (S : Hs) : R W := match xs with
  | [x] => match look x S with
    | some (.l, ws) => match allSome boolD ws with
      | some bs => .ok (.val (.bl (bs.all id))) S
      | none => .no
    | _ => .no
  | _ => .no
def gAny (xs : List W) (S : Hs) : R W := match xs with
  | [x] => match look x S with
    | some (.l, ws) => match allSome boolD ws with
      | some bs => .ok (.val (.bl (bs.any id))) S
      | none => .no
    | _ => .no
  | _ => .no
theorem oc_all : OC K (rAll K) gAll := by
  intro xs vs S H0 H m Q E rl r h
  unfold gAll at h
  split at h
  · cases r with
    | cons a r =>
      cases r
      split at h
      · rename_i ws e
        split at h
        · rename_i bs e2
          obtain ⟨b, us, L⟩ := look_ok e rl a
          have z := bools_ok e2 L.rel
          subst z
          exact ⟨b, bs, by rw [L.eq], Evl.sq_of (L.l rfl), h.now rl (RD.bl _)⟩
        · exact h.elim
      · exact h.elim
  · exact h.elim
theorem oc_any : OC K (rAny K) gAny := by
  intro xs vs S H0 H m Q E rl r h
  unfold gAny at h
  split at h
  · cases r with
    | cons a r =>
      cases r
      split at h
      · rename_i ws e
        split at h
        · rename_i bs e2
          obtain ⟨b, us, L⟩ := look_ok e rl a
          have z := bools_ok e2 L.rel
          subst z
          exact ⟨b, bs, by rw [L.eq], Evl.sq_of (L.l rfl), h.now rl (RD.bl _)⟩
        · exact h.elim
      · exact h.elim
  · exact h.elim

/-! ### methods of lists and texts -/
def isL (x : W) (S : Hs) : Bool := match look x S with
  | some (.l, _) => true
  | some (.s, _) => true
  | _ => false
def isS (x : W) (S : Hs) : Bool := match x with
  | .val (.str _) => true
  | _ => false
def evBM (c : W → Hs → Bool) (g : W → List W → Hs → R W) (a : Ev) (b : Ea) : Ev := fun ρ S => (a ρ S).bind fun x S1 => if c x S1 = true then (b ρ S1).bind fun xs S2 => g x xs S2 else .no
def evBM0 (c : W → Hs → Bool) (g : W → List W → Hs → R W) (a : Ev) : Ev := fun ρ S => (a ρ S).bind fun x S1 => if c x S1 = true then g x [] S1 else .no
def OM (K : PySem.W.Frag) (r : V → List V → Hp → VK → Prop) (g : W → List W → Hs → R W) : Prop := ∀ (x : W) (v : V) (xs : List W) (vs : List V) (S : Hs) (H0 H : Hp) (m : Mp) (Q : VK) (E : XK), Rl K H0 H m S → RW K H0 m x v → RWs K H0 m xs vs → Post K H0 H m (relW K) Q E (g x xs S) → r v vs H Q
def TyOk (K : PySem.W.Frag) (T : String) (c : W → Hs → Bool) : Prop := ∀ (x : W) (v : V) (S : Hs) (H0 H : Hp) (m : Mp), Rl K H0 H m S → RW K H0 m x v → c x S = true → tyV K T v H
theorem ty_list : TyOk K "list" isL := by
  intro x v S H0 H m rl rx h
  unfold isL at h
  split at h
  · rename_i ws e
    obtain ⟨a, vs, L⟩ := look_ok e rl rx
    rw [L.eq]; exact .inl ⟨rfl, vs, Evl.sq_of (L.l rfl)⟩
  · rename_i ws e
    obtain ⟨a, vs, L⟩ := look_ok e rl rx
    rw [L.eq]; exact .inl ⟨rfl, vs, L.s rfl⟩
  · cases h
theorem ty_str : TyOk K "str" isS := by
  intro x v S H0 H m rl rx h
  unfold isS at h
  split at h
  · cases rx; rfl
  · cases h
theorem se_bm {T : String} {c : W → Hs → Bool} {r : V → List V → Hp → VK → Prop} {g : W → List W → Hs → R W} {to : TE} {t : TA} {a : Ev} {b : Ea} (tk : TyOk K T c) (o : OM K r g) (ha : SE K w to a) (hb : SA K w t b) : SE K w (tBM K T r to t) (evBM c g a b) := fun ρ S σ H0 H m Q φ rl re h =>
  ha ρ S σ H0 H m _ φ rl re (h.bind fun x S1 A B n v _ xt rl1 r1 h1 => by
    by_cases q : c x S1 = true
    · rw [if_pos q] at h1
      exact ⟨tk x v S1 A B n rl1 r1 q, hb ρ S1 σ A B n _ (φ.on xt) rl1 (re.on xt) (h1.bind fun xs S2 A2 B2 n2 vs _ xt2 rl2 r2 h2 => o x v xs vs S2 A2 B2 n2 Q _ rl2 (r1.mono xt2.h0 xt2.mm) r2 h2)⟩
    · rw [if_neg q] at h1; exact h1.elim)
theorem se_bm0 {T : String} {c : W → Hs → Bool} {r : V → List V → Hp → VK → Prop} {g : W → List W → Hs → R W} {to : TE} {a : Ev} (tk : TyOk K T c) (o : OM K r g) (ha : SE K w to a) : SE K w (tBM0 K T r to) (evBM0 c g a) := fun ρ S σ H0 H m Q φ rl re h =>
  ha ρ S σ H0 H m _ φ rl re (h.bind fun x S1 A B n v _ xt rl1 r1 h1 => by
    by_cases q : c x S1 = true
    · rw [if_pos q] at h1
      exact ⟨tk x v S1 A B n rl1 r1 q, o x v [] [] S1 A B n Q _ rl1 r1 .nil h1⟩
    · rw [if_neg q] at h1; exact h1.elim)
/-- an owned list -/
def cellL (x : W) (S : Hs) : Option (Nat × List W) := match x with
  | .ref i => match S[i]? with
    | some (some (.lst ws)) => some (i, ws)
    | _ => none
  | _ => none
theorem cellL_ok {x : W} {v : V} {i : Nat} {ws : List W} (e : cellL x S = some (i, ws)) (rl : Rl K H0 H m S) (r : RW K H0 m x v) : ∃ a vs, v = .ref a ∧ m i = some a ∧ H0 a = none ∧ H a = some (.lst vs) ∧ RWs K H0 m ws vs := by
  cases x with
  | val d => cases e
  | ref j =>
    unfold cellL at e
    dsimp only at e
    cases q : S[j]? with
    | none => rw [q] at e; cases e
    | some o =>
      rw [q] at e
      cases o with
      | none => cases e
      | some c =>
        cases c with
        | ob c fs => cases e
        | lst us =>
          have e2 : (j, us) = (i, ws) := Option.some.inj e
          obtain ⟨rfl, rfl⟩ := Prod.mk.inj e2
          obtain ⟨a, ea, ev⟩ := r
          obtain ⟨b, eb, h0, vs, hv, rv⟩ := rl.own j _ q
          rw [ea] at eb; cases eb
          exact ⟨a, vs, ev, ea, h0, hv, rv⟩
def setL (S : Hs) (i : Nat) (ws : List W) : Hs := S.set i (some (.lst ws))
theorem Post.cell {α : Type} {x : α} {rel : Hp → Mp → α → V → Prop} {u : V} {i : Nat} {a : Addr} {us : List W} {vs : List V} (h : Post K H0 H m rel Q E (.ok x (setL S i us))) (rl : Rl K H0 H m S) (hi : m i = some a) (h0 : H0 a = none) (q : RWs K H0 m us vs) (ru : rel H0 m x u) :
    Q u (upd H a (.lst vs)) := by
  obtain ⟨xt, r⟩ := rl.setCell (o := .lst vs) (c := .lst us) hi h0 ⟨vs, upd_same, q⟩
  exact h _ _ _ _ xt r ru
def gAppend (x : W) (xs : List W) (S : Hs) : R W := match cellL x S, xs with
  | some (i, ws), [y] => if ws.length < 16777216 then .ok (.val .non) (setL S i (ws ++ [y])) else .no
  | _, _ => .no
theorem om_append : OM K rAppend gAppend := by
  intro x v xs vs S H0 H m Q E rl rx rs h
  unfold gAppend at h
  split at h
  · rename_i i ws y e
    obtain ⟨c, h⟩ := ite_no h
    obtain ⟨a, us, ev, hi, h0, hv, rv⟩ := cellL_ok e rl rx
    cases rs with
    | cons ry rn =>
      cases rn
      exact ⟨a, us, _, ev, rfl, hv, by rw [← rv.len, line_eq]; exact c, h.cell rl hi h0 (rv.app (.cons ry .nil)) RD.non⟩
  · exact h.elim
def gPop (x : W) (xs : List W) (S : Hs) : R W := match cellL x S, xs with
  | some (i, ws), [] => match ws[ws.length - 1]? with
    | some y => .ok y (setL S i ws.dropLast)
    | none => .no
  | _, _ => .no
theorem RWs.dropLast {ws : List W} {vs : List V} (h : RWs K H0 m ws vs) : RWs K H0 m ws.dropLast vs.dropLast := by
  rw [List.dropLast_eq_take, List.dropLast_eq_take, ← h.len]
  exact RWs.take h _
theorem om_pop : OM K rPop gPop := by
  intro x v xs vs S H0 H m Q E rl rx rs h
  unfold gPop at h
  split at h
  · rename_i i ws e
    obtain ⟨a, us, ev, hi, h0, hv, rv⟩ := cellL_ok e rl rx
    cases rs
    split at h
    · rename_i y e2
      obtain ⟨u, eu, ru⟩ := rv.get e2
      exact ⟨a, us, u, ev, rfl, hv, by rw [← rv.len]; exact eu, h.cell rl hi h0 rv.dropLast ru⟩
    · exact h.elim
  · exact h.elim
def gReverse (x : W) (xs : List W) (S : Hs) : R W := match cellL x S, xs with
  | some (i, ws), [] => .ok (.val .non) (setL S i ws.reverse)
  | _, _ => .no
theorem om_reverse : OM K rReverse gReverse := by
  intro x v xs vs S H0 H m Q E rl rx rs h
  unfold gReverse at h
  split at h
  · rename_i i ws e
    obtain ⟨a, us, ev, hi, h0, hv, rv⟩ := cellL_ok e rl rx
    cases rs
    exact ⟨a, us, ev, rfl, hv, h.cell rl hi h0 rv.rev RD.non⟩
  · exact h.elim
def gCount (x : W) (xs : List W) (S : Hs) : R W := match x, xs with
  | .val (.str a), [.val (.str b)] => .ok (.val (.int (Txt.count a b))) S
  | _, _ => .no
theorem om_count : OM K (fun x xs H Q => ∃ a b, x = .str a ∧ xs = [.str b] ∧ Q (.int (Txt.count a b)) H) gCount := by
  intro x v xs vs S H0 H m Q E rl rx rs h
  unfold gCount at h
  split at h
  · cases rx
    cases rs with | cons ry rn => cases rn; cases ry; exact ⟨_, _, rfl, rfl, h.now rl (RD.int _)⟩
  · exact h.elim
/-- the first place where y stands, among no objects -/
def firstV (y : V) : List V → Option Nat
  | [] => none
  | z :: zs => if eqV z y = true then some 0 else (firstV y zs).map (· + 1)
theorem firstV_ok {y : V} : ∀ {zs : List V} {j : Nat}, firstV y zs = some j → ∃ z, zs[j]? = some z ∧ eqV z y = true ∧ ∀ (i : Nat) (z' : V), i < j → zs[i]? = some z' → eqV z' y = false
  | [], _, e => by cases e
  | z :: zs, j, e => by
    have e2 : (if eqV z y = true then some 0 else (firstV y zs).map (· + 1)) = some j := e
    by_cases q : eqV z y = true
    · rw [if_pos q] at e2
      cases e2
      exact ⟨z, rfl, q, fun i z' hi _ => absurd hi (Nat.not_lt_zero i)⟩
    · rw [if_neg q] at e2
      cases q2 : firstV y zs with
      | none => rw [q2] at e2; cases e2
      | some k =>
        rw [q2] at e2
        have e3 : k + 1 = j := Option.some.inj e2
        subst e3
        obtain ⟨z1, h1, h2, h3⟩ := firstV_ok q2
        refine ⟨z1, by simpa using h1, h2, fun i z' hi hz => ?_⟩
        cases i with
        | zero => have e4 : z = z' := by simpa using hz
                  subst e4; simpa using q
        | succ i => exact h3 i z' (by omega) (by simpa using hz)
def gIndex (x : W) (xs : List W) (S : Hs) : R W := match look x S, xs with
  | some (.l, ws), [y] => match flatD y, allSome flatD ws with
    | some v, some vs => match firstV v vs with
      | some j => .ok (.val (.int (j : Nat))) S
      | none => .no
    | _, _ => .no
  | _, _ => .no
theorem om_index : OM K (rIndex K) gIndex := by
  intro x v xs vs S H0 H m Q E rl rx rs h
  unfold gIndex at h
  split at h
  · rename_i ws y e
    obtain ⟨a, us, L⟩ := look_ok e rl rx
    cases rs with
    | cons ry rn =>
      cases rn
      split at h
      · rename_i v' vs' e1 e2
        split at h
        · rename_i j e3
          obtain ⟨z1, z2⟩ := flatD_ok e1 ry
          obtain ⟨y1, y2⟩ := flats_ok e2 L.rel
          subst z1 y1
          obtain ⟨z, h1, h2, h3⟩ := firstV_ok e3
          exact ⟨a, us, _, j, z, L.eq, rfl, Evl.sq_of (L.l rfl), z2, y2, h1, h2, h3, h.now rl (RD.int _)⟩
        · exact h.elim
      · exact h.elim
  · exact h.elim
end
end G

set_option Elab.async false
set_option linter.all false
set_option maxRecDepth 100000
set_option maxHeartbeats 1000000
/-! G3: statements, loops, comprehensions. -/
namespace G
open PySem L2

inductive RS where
  | nx (ρ : Env) (S : Hs) | ct (ρ : Env) (S : Hs) | bk (ρ : Env) (S : Hs) | rt (w : W) (S : Hs) | exc (c : Str) (fs : List (Str × D)) (ρ : Env) (S : Hs) | no
def PostS (K : PySem.W.Frag) (w : WX) (H0 H : Hp) (m : Mp) (D : Ends) : RS → Prop
  | .nx ρ S => ∀ (A B : Hp) (n : Mp) (σ : L2.St), Xt H0 H m A B n → Rl K A B n S → REnv K A n ρ σ → D.nx σ B
  | .ct ρ S => ∀ (A B : Hp) (n : Mp) (σ : L2.St), Xt H0 H m A B n → Rl K A B n S → REnv K A n ρ σ → D.ct σ B
  | .bk ρ S => ∀ (A B : Hp) (n : Mp) (σ : L2.St), Xt H0 H m A B n → Rl K A B n S → REnv K A n ρ σ → D.bk σ B
  | .rt x S => ∀ (A B : Hp) (n : Mp) (v : V), Xt H0 H m A B n → Rl K A B n S → RW K A n x v → D.rt v B
  | .exc c fs ρ S => ∀ (A B : Hp) (n : Mp) (σ : L2.St) (d : Addr) (gs : List (Str × V)), Xt H0 H m A B n → Rl K A B n S → REnv K A n ρ σ → A d = some (.xd gs) → RDf K A fs gs → w (.ref (ca K c)) (some d) σ B
  | .no => False
abbrev Es := Env → Hs → RS
def SS (K : PySem.W.Frag) (w : WX) (ts : TS) (f : Es) : Prop := ∀ (ρ : Env) (S : Hs) (σ : L2.St) (H0 H : Hp) (m : Mp) (D : Ends), Rl K H0 H m S → REnv K H0 m ρ σ → PostS K w H0 H m D (f ρ S) → ts D σ H
/-- an expression's outcome goes on as a statement -/
def R.thenS {α : Type} (ρ : Env) (r : R α) (k : α → Hs → RS) : RS := match r with
  | .ok a S => k a S
  | .exc c fs S => .exc c fs ρ S
  | .no => .no
def esNext : Es := fun ρ S => .nx ρ S
def esBrk : Es := fun ρ S => .bk ρ S
def esCont : Es := fun ρ S => .ct ρ S
def esSeq (a b : Es) : Es := fun ρ S => match a ρ S with
  | .nx ρ1 S1 => b ρ1 S1
  | r => r
def esDrop (a : Ev) : Es := fun ρ S => (a ρ S).thenS ρ fun _ S1 => .nx ρ S1
def esRet (a : Ev) : Es := fun ρ S => (a ρ S).thenS ρ fun x S1 => .rt x S1
def esRetN : Es := fun _ S => .rt (.val .non) S
def esIf (t : Et) (a b : Es) : Es := fun ρ S => (t ρ S).thenS ρ fun c S1 => if c = true then a ρ S1 else b ρ S1
abbrev Eg := W → Env → Hs → RS
def esAsg (a : Ev) (g : Eg) : Es := fun ρ S => (a ρ S).thenS ρ fun x S1 => g x ρ S1
def egName (i : Nat) : Eg := fun x ρ S => .nx (ρ.set i (some x)) S
abbrev Egs := List W → Env → Hs → RS
def egNil : Egs := fun xs ρ S => match xs with
  | [] => .nx ρ S
  | _ => .no
def egCons (g : Eg) (r : Egs) : Egs := fun xs ρ S => match xs with
  | x :: xs => (match g x ρ S with
    | .nx ρ1 S1 => r xs ρ1 S1
    | r => r)
  | [] => .no
def egTup (n : Nat) (r : Egs) : Eg := fun x ρ S => match x with
  | .val (.tup ds) => if ds.length = n then r (ds.map .val) ρ S else .no
  | _ => .no
def gSet (o i x : W) (S : Hs) : Option Hs := match cellL o S, i with
  | some (c, ws), .val (.int k) => match ixN ws.length k with
    | some j => some (setL S c (ws.set j x))
    | none => none
  | _, _ => none
def egSub (a b : Ev) : Eg := fun x ρ S => (a ρ S).thenS ρ fun o S1 => (b ρ S1).thenS ρ fun i S2 => match gSet o i x S2 with
  | some S3 => .nx ρ S3
  | none => .no
def esAug (i : Nat) (g : W → W → Hs → R W) (a : Ev) : Es := fun ρ S => match ρ[i]? with
  | some (some x) => (a ρ S).thenS ρ fun y S1 => (g x y S1).thenS ρ fun z S2 => .nx (ρ.set i (some z)) S2
  | _ => .no
def esAugS (g : W → W → Hs → R W) (o i a : Ev) : Es := fun ρ S => (o ρ S).thenS ρ fun o S1 => (i ρ S1).thenS ρ fun i S2 => (gIx o i S2).thenS ρ fun x S3 => (a ρ S3).thenS ρ fun y S4 => (g x y S4).thenS ρ fun z S5 => match gSet o i z S5 with
  | some S6 => .nx ρ S6
  | none => .no
/-- an owned list of plain items becomes plain -/
def esFrz (i : Nat) : Es := fun ρ S => match ρ[i]? with
  | some (some (.ref k)) => (match S[k]? with
    | some (some (.lst ws)) => (match vals? ws with
      | some ds => .nx (ρ.set i (some (.val (.lst ds)))) (S.set k none)
      | none => .no)
    | _ => .no)
  | some (some x) => .nx ρ S
  | _ => .no

section
variable {K : PySem.W.Frag} {w : WX} {H0 H A B : Hp} {m n : Mp} {S : Hs} {D : Ends} {ρ : Env} {σ : L2.St}
theorem PostS.shift {r : RS} (x : Xt H0 H m A B n) (h : PostS K w H0 H m D r) : PostS K w A B n D r := by
  cases r with
  | nx ρ S => exact fun A2 B2 n2 s y z u => h A2 B2 n2 s (x.trans y) z u
  | ct ρ S => exact fun A2 B2 n2 s y z u => h A2 B2 n2 s (x.trans y) z u
  | bk ρ S => exact fun A2 B2 n2 s y z u => h A2 B2 n2 s (x.trans y) z u
  | rt q S => exact fun A2 B2 n2 s y z u => h A2 B2 n2 s (x.trans y) z u
  | exc c fs ρ S => exact fun A2 B2 n2 s d gs y z u e f => h A2 B2 n2 s d gs (x.trans y) z u e f
  | no => exact h
theorem PostS.now (h : PostS K w H0 H m D (.nx ρ S)) (rl : Rl K H0 H m S) (re : REnv K H0 m ρ σ) : D.nx σ H := h _ _ _ _ Xt.refl rl re
/-- an expression ahead -/
theorem PostS.expr {α β : Type} {rel : Hp → Mp → α → β → Prop} {r : R α} {k : α → Hs → RS} {rest : β → Hp → Prop} (re : REnv K H0 m ρ σ) (h : PostS K w H0 H m D (r.thenS ρ k))
    (step : ∀ (a : α) (S1 : Hs) (A B : Hp) (n : Mp) (b : β), r = .ok a S1 → Xt H0 H m A B n → Rl K A B n S1 → rel A n a b → PostS K w A B n D (k a S1) → rest b B) : Post K H0 H m rel rest (WE w σ) r := by
  cases r with
  | ok a S' => exact fun A B n b y z u => step a S' A B n b rfl y z u (PostS.shift y h)
  | exc c fs S' => exact fun A B n d gs y z e f => h A B n σ d gs y z (re.on y) e f
  | no => exact h
theorem ss_next : SS K w tNext esNext := fun ρ S σ H0 H m D rl re h => h.now rl re
theorem ss_brk : SS K w tBreak esBrk := fun ρ S σ H0 H m D rl re h => h _ _ _ _ Xt.refl rl re
theorem ss_cont : SS K w tCont esCont := fun ρ S σ H0 H m D rl re h => h _ _ _ _ Xt.refl rl re
/-- a statement ahead: the other ways out stay -/
theorem PostS.seq {r : RS} {b : Es} {N : L2.St → Hp → Prop} (h : PostS K w H0 H m D (match r with
  | .nx ρ1 S1 => b ρ1 S1
  | r => r)) (step : ∀ (ρ1 : Env) (S1 : Hs) (A B : Hp) (n : Mp) (σ1 : L2.St), Xt H0 H m A B n → Rl K A B n S1 → REnv K A n ρ1 σ1 → PostS K w A B n D (b ρ1 S1) → N σ1 B) : PostS K w H0 H m { D with nx := N } r := by
  cases r with
  | nx ρ1 S1 => exact fun A B n s y z u => step ρ1 S1 A B n s y z u (PostS.shift y h)
  | ct ρ S => exact h
  | bk ρ S => exact h
  | rt q S => exact h
  | exc c fs ρ S => exact h
  | no => exact h
theorem ss_seq {t u : TS} {a b : Es} (ha : SS K w t a) (hb : SS K w u b) : SS K w (tSeq t u) (esSeq a b) := fun ρ S σ H0 H m D rl re h =>
  ha ρ S σ H0 H m { D with nx := u D } rl re (PostS.seq (b := b) h fun ρ1 S1 A B n s y z q k => hb ρ1 S1 s A B n D z q k)
theorem ss_drop {te : TE} {a : Ev} (ha : SE K (up w) te a) : SS K w (tDrop te) (esDrop a) := fun ρ S σ H0 H m D rl re h =>
  ha ρ S σ H0 H m _ trivial rl re (PostS.expr re h fun x S1 A B n v _ xt rl1 _ h1 => h1.now rl1 (re.on xt))
theorem ss_ret {te : TE} {a : Ev} (ha : SE K (up w) te a) : SS K w (tRet te) (esRet a) := fun ρ S σ H0 H m D rl re h =>
  ha ρ S σ H0 H m _ trivial rl re (PostS.expr re h fun x S1 A B n v _ xt rl1 r1 h1 => h1 _ _ _ _ Xt.refl rl1 r1)
theorem ss_retN : SS K w tRetN esRetN := fun ρ S σ H0 H m D rl re h => h _ _ _ _ Xt.refl rl RD.non
theorem ss_if {c : TT} {t u : TS} {e : Et} {a b : Es} (hc : ST K (up w) c e) (ha : SS K w t a) (hb : SS K w u b) : SS K w (tIfS c t u) (esIf e a b) := fun ρ S σ H0 H m D rl re h =>
  hc ρ S σ H0 H m _ trivial rl re (PostS.expr re h fun x S1 A B n v _ xt rl1 r1 h1 => by
    have e : x = v := r1
    subst e
    cases x with
    | true => rw [if_pos rfl] at h1 ⊢; exact ha ρ S1 σ A B n D rl1 (re.on xt) h1
    | false => rw [if_neg Bool.false_ne_true] at h1 ⊢; exact hb ρ S1 σ A B n D rl1 (re.on xt) h1)
/-- targets -/
def EndG (Q : L2.St → Hp → Prop) : Ends := { nx := Q, rt := fun _ _ => False }
def SG (K : PySem.W.Frag) (w : WX) (g : TG) (f : Eg) : Prop := ∀ (x : W) (v : V) (ρ : Env) (S : Hs) (σ : L2.St) (H0 H : Hp) (m : Mp) (D : Ends), Rl K H0 H m S → REnv K H0 m ρ σ → RW K H0 m x v → PostS K w H0 H m D (f x ρ S) → g v σ H D.nx
def SGs (K : PySem.W.Frag) (w : WX) (g : TGs) (f : Egs) : Prop := ∀ (xs : List W) (vs : List V) (ρ : Env) (S : Hs) (σ : L2.St) (H0 H : Hp) (m : Mp) (D : Ends), Rl K H0 H m S → REnv K H0 m ρ σ → RWs K H0 m xs vs → PostS K w H0 H m D (f xs ρ S) → g vs σ H D.nx
theorem sg_name (i : Nat) : SG K w (gName i) (egName i) := fun x v ρ S σ H0 H m D rl re rx h => h.now rl (re.set rx i)
theorem sgs_nil : SGs K w gNil egNil := by
  intro xs vs ρ S σ H0 H m D rl re rx h
  cases rx with
  | nil => exact ⟨rfl, PostS.now h rl re⟩
  | cons _ _ => exact False.elim h
theorem sgs_cons {g : TG} {gs : TGs} {f : Eg} {fs : Egs} (hg : SG K w g f) (hs : SGs K w gs fs) : SGs K w (gCons g gs) (egCons f fs) := by
  intro xs vs ρ S σ H0 H m D rl re rx h
  cases rx with
  | nil => exact False.elim h
  | @cons x v xs vs r rs =>
    refine ⟨v, vs, rfl, ?_⟩
    exact hg x v ρ S σ H0 H m { D with nx := fun σ' H' => gs vs σ' H' D.nx } rl re r (PostS.seq (b := fun ρ1 S1 => fs xs ρ1 S1) h fun ρ1 S1 A B n s y z q k => hs xs vs ρ1 S1 s A B n D z q (RWs.mono y.h0 y.mm rs) k)
theorem sg_tup {k : Nat} {gs : TGs} {fs : Egs} (hs : SGs K w gs fs) : SG K w (gTup K k gs) (egTup k fs) := by
  intro x v ρ S σ H0 H m D rl re rx h
  unfold egTup at h
  split at h
  · rename_i ds
    by_cases z : ds.length = k
    · rw [if_pos z] at h
      cases rx with
      | @tup _ a vs h1 r1 => exact ⟨a, vs, rfl, Evl.ex_t rl.sub h1, by rw [← r1.length]; exact z, hs _ vs ρ S σ H0 H m D rl re r1.toW h⟩
    · rw [if_neg z] at h; exact False.elim h
  · exact False.elim h
theorem gSet_ok {o i x : W} {vo vi vx : V} {S' : Hs} (e : gSet o i x S = some S') (rl : Rl K H0 H m S) (ro : RW K H0 m o vo) (ri : RW K H0 m i vi) (rx : RW K H0 m x vx) {Q : Hp → Prop}
    (h : ∀ B, Xt H0 H m H0 B m → Rl K H0 B m S' → Q B) : rSetL vo vi vx H Q := by
  unfold gSet at e
  split at e
  · rename_i c ws k e1
    split at e
    · rename_i j e2
      cases e
      obtain ⟨a, us, ev, hi, h0, hv, rv⟩ := cellL_ok e1 rl ro
      cases ri
      obtain ⟨xt, r⟩ := rl.setCell (o := .lst (us.set j vx)) (c := .lst (ws.set j x)) hi h0 ⟨_, upd_same, rv.set rx j⟩
      exact ⟨a, us, k, j, ev, rfl, hv, by rw [← rv.len]; exact e2, h _ xt r⟩
    · cases e
  · cases e
theorem sg_sub {to ti : TE} {a b : Ev} (ha : SE K (up w) to a) (hb : SE K (up w) ti b) : SG K w (gSub to ti rSetL) (egSub a b) := fun x v ρ S σ H0 H m D rl re rx h =>
  ha ρ S σ H0 H m _ trivial rl re (PostS.expr re h fun o S1 A B n vo _ xt rl1 r1 h1 => hb ρ S1 σ A B n _ trivial rl1 (re.on xt) (PostS.expr (re.on xt) h1 fun i S2 A2 B2 n2 vi _ xt2 rl2 r2 h2 => by
    split at h2
    · rename_i S3 e
      exact gSet_ok e rl2 (r1.mono xt2.h0 xt2.mm) r2 ((rx.mono xt.h0 xt.mm).mono xt2.h0 xt2.mm) fun B3 xt3 rl3 => h2 _ _ _ _ xt3 rl3 (((re.on xt).on xt2).on xt3)
    · exact False.elim h2))
theorem ss_asg {te : TE} {g : TG} {a : Ev} {f : Eg} (ha : SE K (up w) te a) (hg : SG K w g f) : SS K w (tAsg te g) (esAsg a f) := fun ρ S σ H0 H m D rl re h =>
  ha ρ S σ H0 H m _ trivial rl re (PostS.expr re h fun x S1 A B n v _ xt rl1 r1 h1 => hg x v ρ S1 σ A B n D rl1 (re.on xt) r1 h1)
theorem ss_set {te : TE} {a : Ev} (i : Nat) (ha : SE K (up w) te a) : SS K w (tAsg te (gName i)) (esAsg a (egName i)) := ss_asg ha (sg_name i)
theorem ss_aug {te : TE} {ti : TIp} {g : W → W → Hs → R W} {a : Ev} (i : Nat) (ha : SE K (up w) te a) (o : O2 K ti g) : SS K w (tAug i te ti) (esAug i g a) := fun ρ S σ H0 H m D rl re h => by
  unfold esAug at h
  split at h
  · rename_i x e
    obtain ⟨v, hv, rv⟩ := re.at_ i x e
    refine ⟨v, hv, ha ρ S σ H0 H m _ trivial rl re (PostS.expr re h fun y S1 A B n u _ xt rl1 r1 h1 => ?_)⟩
    exact o x y v u S1 A B n _ _ rl1 (rv.mono xt.h0 xt.mm) r1 (PostS.expr (re.on xt) h1 fun z S2 A2 B2 n2 t _ xt2 rl2 r2 h2 => h2.now rl2 (((re.on xt).on xt2).set r2 i))
  · exact False.elim h
theorem ss_augS {to ti te : TE} {tip : TIp} {g : W → W → Hs → R W} {o i a : Ev} (ho : SE K (up w) to o) (hi : SE K (up w) ti i) (ha : SE K (up w) te a) (og : O2 K tip g) : SS K w (tAugS to ti te (rIx K) tip rSetL) (esAugS g o i a) := fun ρ S σ H0 H m D rl re h =>
  ho ρ S σ H0 H m _ trivial rl re (PostS.expr re h fun o S1 A B n vo _ xt rl1 r1 h1 => hi ρ S1 σ A B n _ trivial rl1 (re.on xt) (PostS.expr (re.on xt) h1 fun i S2 A2 B2 n2 vi _ xt2 rl2 r2 h2 => by
    have re2 := (re.on xt).on xt2
    refine o_ix o i vo vi S2 A2 B2 n2 _ _ rl2 (r1.mono xt2.h0 xt2.mm) r2 (PostS.expr re2 h2 fun x S3 A3 B3 n3 vx _ xt3 rl3 r3 h3 => ?_)
    have re3 := re2.on xt3
    refine ha ρ S3 σ A3 B3 n3 _ trivial rl3 re3 (PostS.expr re3 h3 fun y S4 A4 B4 n4 vy _ xt4 rl4 r4 h4 => ?_)
    have re4 := re3.on xt4
    refine og x y vx vy S4 A4 B4 n4 _ _ rl4 (r3.mono xt4.h0 xt4.mm) r4 (PostS.expr re4 h4 fun z S5 A5 B5 n5 vz _ xt5 rl5 r5 h5 => ?_)
    split at h5
    · rename_i S6 e
      have xto := ((xt2.trans xt3).trans xt4).trans xt5
      have xti := (xt3.trans xt4).trans xt5
      exact gSet_ok e rl5 (r1.mono xto.h0 xto.mm) (r2.mono xti.h0 xti.mm) r5 fun B6 xt6 rl6 => h5 _ _ _ _ xt6 rl6 ((re4.on xt5).on xt6)
    · exact False.elim h5))
/-- nothing is done, a cell is let go -/
theorem Rl.kill (rl : Rl K H0 H m S) (k : Nat) : Rl K H0 H m (S.set k none) := by
  refine ⟨rl.sub, fun i a e => by rw [List.length_set]; exact rl.dom i a e, rl.tr, fun i c e => ?_, rl.inj⟩
  by_cases q : i = k
  · subst q
    by_cases l : i < S.length
    · rw [List.getElem?_set_self l] at e; cases e
    · rw [List.getElem?_eq_none (by simpa using l)] at e; cases e
  · rw [List.getElem?_set_ne (Ne.symm q)] at e
    exact rl.own i c e
theorem Rl.thaw (rl : Rl K H0 H m S) {k : Nat} {a : Addr} {o : HO} (hk : m k = some a) (h0 : H0 a = none) (ho : H a = some o) : Xt H0 H m (upd H0 a o) H m ∧ Rl K (upd H0 a o) H m (S.set k none) := by
  have e0 : Evl.Ex H0 (upd H0 a o) := Evl.Ex.new h0
  refine ⟨⟨e0, fun _ _ h => h, fun _ _ h _ => h, fun _ u h => ⟨u, h⟩, fun _ _ h => .inl h, fun b u h => ?_⟩, ⟨fun b u h => ?_, fun i b e => by rw [List.length_set]; exact rl.dom i b e, rl.tr, fun i c e => ?_, rl.inj⟩⟩
  · by_cases q : b = a
    · exact .inr (.inr ⟨k, by rw [q]; exact hk⟩)
    · rw [upd_ne q] at h; exact .inl ⟨u, h⟩
  · by_cases q : b = a
    · subst q; rw [upd_same] at h; cases h; exact ho
    · rw [upd_ne q] at h; exact rl.sub b u h
  · by_cases q : i = k
    · subst q
      by_cases l : i < S.length
      · rw [List.getElem?_set_self l] at e; cases e
      · rw [List.getElem?_eq_none (by simpa using l)] at e; cases e
    · rw [List.getElem?_set_ne (Ne.symm q)] at e
      obtain ⟨b, e1, e2, e3⟩ := rl.own i c e
      exact ⟨b, e1, by rw [upd_ne (fun z => q (rl.inj i k b e1 (by rw [z]; exact hk)))]; exact e2, e3.mono e0 (fun _ _ h => h) fun _ h => h⟩
theorem ss_frz {t : TS} {a : Es} (i : Nat) (ha : SS K w t a) : SS K w t (esSeq (esFrz i) a) := fun ρ S σ H0 H m D rl re h => by
  unfold esSeq esFrz at h
  cases e : ρ[i]? with
  | none => rw [e] at h; exact False.elim h
  | some o =>
    cases o with
    | none => rw [e] at h; exact False.elim h
    | some x =>
      rw [e] at h
      cases x with
      | val d => exact ha ρ S σ H0 H m D rl re h
      | ref k =>
        dsimp only at h
        cases q : S[k]? with
        | none => rw [q] at h; exact False.elim h
        | some o =>
          rw [q] at h
          cases o with
          | none => exact False.elim h
          | some c =>
            cases c with
            | ob c fs => exact False.elim h
            | lst ws =>
              dsimp only at h
              cases q2 : vals? ws with
              | none => rw [q2] at h; exact False.elim h
              | some ds =>
                rw [q2] at h
                obtain ⟨b, eb, h0, vs, hv, rv⟩ := rl.own k _ q
                obtain ⟨v, sv, a2, ea2, ev⟩ := re.at_ i _ e
                rw [eb] at ea2; cases ea2
                subst ev
                obtain ⟨xt, r⟩ := rl.thaw eb h0 hv
                have re2 := (re.on xt).set (w := .val (.lst ds)) (v := .ref b) (RD.lst upd_same (RDs.mono xt.h0 (vals?_rel q2 rv))) i
                have es : σ.set i (some (V.ref b)) = σ := by
                  apply List.ext_getElem?
                  intro j
                  by_cases z : i = j
                  · subst z
                    have l : i < σ.length := by
                      rcases Nat.lt_or_ge i σ.length with l | l
                      · exact l
                      · rw [List.getElem?_eq_none l] at sv; cases sv
                    rw [List.getElem?_set_self l, sv]
                  · rw [List.getElem?_set_ne z]
                rw [es] at re2
                exact ha _ _ σ _ _ _ D r re2 (PostS.shift xt h)

/-! ### while -/
def loopW (t : Et) (b : Es) : Nat → Env → Hs → RS
  | 0, _, _ => .no
  | k + 1, ρ, S => (t ρ S).thenS ρ fun c S1 => if c = true then (match b ρ S1 with
    | .nx ρ2 S2 => loopW t b k ρ2 S2
    | .ct ρ2 S2 => loopW t b k ρ2 S2
    | .bk ρ2 S2 => .nx ρ2 S2
    | r => r) else .nx ρ S1
def esWhile (N : Nat) (t : Et) (b : Es) : Es := loopW t b N
theorem ss_while {c : TT} {tb : TS} {t : Et} {b : Es} (N : Nat) (hc : ST K (up w) c t) (hb : SS K w tb b) : SS K w (tWhile c tb) (esWhile N t b) := fun ρ S σ H0 H m D rl re h => by
  refine ⟨fun k σ H => ∃ (ρ : Env) (S : Hs) (A : Hp) (n : Mp), Rl K A H n S ∧ REnv K A n ρ σ ∧ PostS K w A H n D (loopW t b k ρ S), ⟨N, ρ, S, H0, m, rl, re, h⟩, ?_⟩
  rintro k σ H ⟨ρ, S, A, n, rl, re, h⟩
  cases k with
  | zero => exact False.elim h
  | succ k =>
    refine hc ρ S σ A H n _ trivial rl re (PostS.expr re h fun x S1 A1 B1 n1 v _ xt rl1 r1 h1 => ?_)
    have e : x = v := r1
    subst e
    cases x with
    | false =>
      rw [if_neg Bool.false_ne_true] at h1 ⊢
      exact h1.now rl1 (re.on xt)
    | true =>
      rw [if_pos rfl] at h1 ⊢
      refine ⟨fun σ' H' => ∃ (ρ : Env) (S : Hs) (A : Hp) (n : Mp), Rl K A H' n S ∧ REnv K A n ρ σ' ∧ PostS K w A H' n D (loopW t b k ρ S), fun σ' H' z => ⟨k, Nat.lt_succ_self k, z⟩, ?_⟩
      refine hb ρ S1 σ A1 B1 n1 _ rl1 (re.on xt) ?_
      cases e : b ρ S1 with
      | nx ρ2 S2 => rw [e] at h1; exact fun A2 B2 n2 s y z u => ⟨ρ2, S2, A2, n2, z, u, PostS.shift y h1⟩
      | ct ρ2 S2 => rw [e] at h1; exact fun A2 B2 n2 s y z u => ⟨ρ2, S2, A2, n2, z, u, PostS.shift y h1⟩
      | bk ρ2 S2 => rw [e] at h1; exact h1
      | rt q S => rw [e] at h1; exact h1
      | exc c fs ρ S => rw [e] at h1; exact h1
      | no => rw [e] at h1; exact h1

/-! ### for -/
inductive Nxt where
  | item (row : Bool) (ws : List W) | stop | no
structure Src where
  bound : Nat
  nxt : Nat → Hs → Nxt
def ItemRel (K : PySem.W.Frag) (A : Hp) (n : Mp) (row : Bool) (ws : List W) (x : V) : Prop :=
  if row = true then ∃ T vs, x = .ref T ∧ SqT K A T vs ∧ RWs K A n ws vs else ∃ u, ws = [u] ∧ RW K A n u x
def SrcOk (K : PySem.W.Frag) (H0 : Hp) (m : Mp) (src : Src) (J : It) : Prop := ∀ (A H : Hp) (n : Mp) (S : Hs), Evl.Ex H0 A → (∀ i a, m i = some a → n i = some a) → Rl K A H n S → ∀ i, match src.nxt i S with
  | .no => True
  | .stop => J.stop i H
  | .item row ws => J.go i H ∧ ∀ x H', J.yld i H x H' → ∃ A', Xt A H n A' H' n ∧ Rl K A' H' n S ∧ ItemRel K A' n row ws x
abbrev Ei := Env → Hs → R Src
def SI (K : PySem.W.Frag) (w : Wc) (wi : TI) (f : Ei) : Prop := ∀ (ρ : Env) (S : Hs) (σ : L2.St) (H0 H : Hp) (m : Mp) (Rk : It → Hp → Prop), w.P σ H0 → Rl K H0 H m S → REnv K H0 m ρ σ → Post K H0 H m (fun A n s J => SrcOk K A n s J) Rk (WE w.x σ) (f ρ S) → wi σ H Rk
/-- how an item is taken: a value by a target; a row by its targets -/
inductive Tk where
  | one (g : Eg) | row (k : Nat) (gs : Egs)
def Tk.run (t : Tk) (row : Bool) (ws : List W) (ρ : Env) (S : Hs) : RS := match t, row, ws with
  | .one g, false, [u] => g u ρ S
  | .row k gs, true, ws => if ws.length = k then gs ws ρ S else .no
  | .row k gs, false, [.val (.tup ds)] => if ds.length = k then gs (ds.map .val) ρ S else .no
  | _, _, _ => .no
def STk (K : PySem.W.Frag) (w : WX) (g : TG) (t : Tk) : Prop := ∀ (row : Bool) (ws : List W) (x : V) (ρ : Env) (S : Hs) (σ : L2.St) (H0 H : Hp) (m : Mp) (D : Ends), Rl K H0 H m S → REnv K H0 m ρ σ → ItemRel K H0 m row ws x → PostS K w H0 H m D (t.run row ws ρ S) → g x σ H D.nx
theorem ItemRel.one {u : W} {x : V} (r : ItemRel K H0 m false [u] x) : RW K H0 m u x := by
  unfold ItemRel at r
  rw [if_neg Bool.false_ne_true] at r
  obtain ⟨u', e1, e2⟩ := r
  cases e1
  exact e2
theorem ItemRel.row {ws : List W} {x : V} (r : ItemRel K H0 m true ws x) : ∃ T vs, x = .ref T ∧ SqT K H0 T vs ∧ RWs K H0 m ws vs := by
  unfold ItemRel at r
  rw [if_pos rfl] at r
  exact r
theorem stk_one {g : TG} {f : Eg} (h : SG K w g f) : STk K w g (.one f) := by
  intro row ws x ρ S σ H0 H m D rl re r q
  cases row with
  | true => cases ws <;> exact False.elim q
  | false =>
    cases ws with
    | nil => exact False.elim q
    | cons u us =>
      cases us with
      | cons _ _ => exact False.elim q
      | nil => exact h u x ρ S σ H0 H m D rl re r.one q
theorem stk_row {k : Nat} {gs : TGs} {fs : Egs} (h : SGs K w gs fs) : STk K w (gTup K k gs) (.row k fs) := by
  intro row ws x ρ S σ H0 H m D rl re r q
  cases row with
  | true =>
    have q2 : PostS K w H0 H m D (if ws.length = k then fs ws ρ S else .no) := by cases ws <;> exact q
    by_cases z : ws.length = k
    · rw [if_pos z] at q2
      obtain ⟨T, vs, e, hT, rv⟩ := r.row
      exact ⟨T, vs, e, Evl.ex_t rl.sub hT, by rw [← rv.len]; exact z, h ws vs ρ S σ H0 H m D rl re rv q2⟩
    · rw [if_neg z] at q2; exact False.elim q2
  | false =>
    cases ws with
    | nil => exact False.elim q
    | cons u us =>
      cases us with
      | cons _ _ =>
        cases u with
        | ref _ => exact False.elim q
        | val d => cases d <;> exact False.elim q
      | nil =>
        have rx := r.one
        cases u with
        | ref _ => exact False.elim q
        | val d =>
          cases d with
          | tup ds =>
            have q2 : PostS K w H0 H m D (if ds.length = k then fs (ds.map .val) ρ S else .no) := q
            by_cases z : ds.length = k
            · rw [if_pos z] at q2
              cases rx with
              | @tup _ a vs h1 r1 => exact ⟨a, vs, rfl, Evl.ex_t rl.sub h1, by rw [← r1.length]; exact z, h _ vs ρ S σ H0 H m D rl re r1.toW q2⟩
            · rw [if_neg z] at q2; exact False.elim q2
          | _ => exact False.elim q
def loopF (src : Src) (t : Tk) (b : Es) : Nat → Nat → Env → Hs → RS
  | k, i, ρ, S => match src.nxt i S with
    | .stop => .nx ρ S
    | .no => .no
    | .item row ws => match k with
      | 0 => .no
      | k + 1 => match t.run row ws ρ S with
        | .nx ρ1 S1 => (match b ρ1 S1 with
          | .nx ρ2 S2 => loopF src t b k (i + 1) ρ2 S2
          | .ct ρ2 S2 => loopF src t b k (i + 1) ρ2 S2
          | .bk ρ2 S2 => .nx ρ2 S2
          | r => r)
        | .exc c fs ρ S => .exc c fs ρ S
        | _ => .no
def esFor (it : Ei) (t : Tk) (b : Es) : Es := fun ρ S => (it ρ S).thenS ρ fun src S1 => loopF src t b src.bound 0 ρ S1
theorem SrcOk.on {src : Src} {J : It} (h : SrcOk K H0 m src J) (e : Evl.Ex H0 A) (k : ∀ i a, m i = some a → n i = some a) : SrcOk K A n src J := fun A2 H2 n2 S2 e2 k2 rl2 i => h A2 H2 n2 S2 (e.trans e2) (fun i a z => k2 i a (k i a z)) rl2 i
theorem ss_for {wi : TI} {g : TG} {tb : TS} {it : Ei} {t : Tk} {b : Es} (hi : SI K (up w) wi it) (hg : STk K w g t) (hb : SS K w tb b) : SS K w (tFor wi g tb) (esFor it t b) := fun ρ S σ H0 H m D rl re h => by
  refine hi ρ S σ H0 H m _ trivial rl re (PostS.expr re h fun src S1 A B n J _ xt rl1 sok h1 => ?_)
  refine ⟨fun i k σ H => ∃ (ρ : Env) (S : Hs) (A : Hp) (n : Mp), Rl K A H n S ∧ REnv K A n ρ σ ∧ SrcOk K A n src J ∧ PostS K w A H n D (loopF src t b k i ρ S), ⟨src.bound, ρ, S1, A, n, rl1, re.on xt, sok, h1⟩, ?_⟩
  rintro i k σ H ⟨ρ, S, A, n, rl, re, sok, h⟩
  have z := sok A H n S (fun _ _ q => q) (fun _ _ q => q) rl i
  unfold loopF at h
  cases e : src.nxt i S with
  | no => rw [e] at h; exact False.elim h
  | stop => rw [e] at h z; exact .inl ⟨z, PostS.now h rl re⟩
  | item row ws =>
    rw [e] at h z
    dsimp only at h z
    cases k with
    | zero => exact False.elim h
    | succ k =>
      dsimp only at h
      refine .inr ⟨z.1, fun σ' H' => ∃ (ρ : Env) (S : Hs) (A : Hp) (n : Mp), Rl K A H' n S ∧ REnv K A n ρ σ' ∧ SrcOk K A n src J ∧ PostS K w A H' n D (loopF src t b k (i + 1) ρ S), fun σ' H' z => ⟨k, Nat.lt_succ_self k, z⟩, fun x H' y => ?_⟩
      obtain ⟨A', xt, rl', ir⟩ := z.2 x H' y
      have h' := PostS.shift xt h
      refine hg row ws x ρ S σ A' H' n { nx := _, rt := D.rt, bk := fun _ _ => False, ct := fun _ _ => False } rl' (re.on xt) ir ?_
      cases e2 : t.run row ws ρ S with
      | no => rw [e2] at h'; exact h'
      | rt q S => rw [e2] at h'; exact False.elim h'
      | bk q S => rw [e2] at h'; exact False.elim h'
      | ct q S => rw [e2] at h'; exact False.elim h'
      | exc c fs ρ S => rw [e2] at h'; exact h'
      | nx ρ1 S1 =>
        rw [e2] at h'
        intro A1 B1 n1 σ1 y1 r1 re1
        have h1 := PostS.shift y1 h'
        refine hb ρ1 S1 σ1 A1 B1 n1 _ r1 re1 ?_
        have so1 : SrcOk K A1 n1 src J := sok.on (xt.h0.trans y1.h0) (fun i a q => y1.mm i a q)
        cases e : b ρ1 S1 with
        | nx ρ2 S2 => dsimp only at h1; rw [e] at h1; exact fun A2 B2 n2 s y z u => ⟨ρ2, S2, A2, n2, z, u, so1.on y.h0 y.mm, PostS.shift y h1⟩
        | ct ρ2 S2 => dsimp only at h1; rw [e] at h1; exact fun A2 B2 n2 s y z u => ⟨ρ2, S2, A2, n2, z, u, so1.on y.h0 y.mm, PostS.shift y h1⟩
        | bk ρ2 S2 => dsimp only at h1; rw [e] at h1; exact h1
        | rt q S => dsimp only at h1; rw [e] at h1; exact h1
        | exc c fs ρ S => dsimp only at h1; rw [e] at h1; exact h1
        | no => dsimp only at h1; rw [e] at h1; exact h1

/-! ### what is walked -/
def eiRng1 (a : Ea) : Ei := fun ρ S => (a ρ S).bind fun xs S1 => match xs with
  | [.val (.int j)] => if -(2 ^ 62) ≤ j ∧ j < 2 ^ 62 then .ok ⟨j.toNat, fun i _ => if i < j.toNat then .item false [.val (.int (0 + (i : Int)))] else .stop⟩ S1 else .no
  | _ => .no
def eiRng2 (a : Ea) : Ei := fun ρ S => (a ρ S).bind fun xs S1 => match xs with
  | [.val (.int l), .val (.int j)] => if -(2 ^ 62) ≤ l ∧ l < 2 ^ 62 ∧ -(2 ^ 62) ≤ j ∧ j < 2 ^ 62 then .ok ⟨(j - l).toNat, fun i _ => if i < (j - l).toNat then .item false [.val (.int (l + (i : Int)))] else .stop⟩ S1 else .no
  | _ => .no
theorem src_rng (lo : Int) (k : Nat) : SrcOk K H0 m ⟨k, fun i _ => if i < k then .item false [.val (.int (lo + (i : Int)))] else .stop⟩ (Itr lo k) := by
  intro A H n S _ _ rl i
  dsimp only
  by_cases q : i < k
  · rw [if_pos q]
    refine ⟨q, fun x H' y => ?_⟩
    obtain ⟨rfl, rfl⟩ := y
    exact ⟨A, Xt.refl, rl, by unfold ItemRel; rw [if_neg Bool.false_ne_true]; exact ⟨_, rfl, RD.int _⟩⟩
  · rw [if_neg q]
    exact Nat.le_of_not_lt q
theorem si_rng1 {cw : Wc} {ta : TA} {a : Ea} (ha : SA K cw ta a) : SI K cw (iRng1 ta) (eiRng1 a) := fun ρ S σ H0 H m Rk φ rl re h =>
  ha ρ S σ H0 H m _ φ rl re (h.bind fun xs S1 A B n vs _ xt rl1 r1 h1 => by
    split at h1
    · rename_i j _
      by_cases c : -(2 ^ 62) ≤ j ∧ j < 2 ^ 62
      · rw [if_pos c] at h1
        cases r1 with
        | cons a r => cases r; cases a; exact ⟨j, rfl, c.1, c.2, h1.now rl1 (src_rng 0 _)⟩
      · rw [if_neg c] at h1; exact h1.elim
    · exact h1.elim)
theorem si_rng2 {cw : Wc} {ta : TA} {a : Ea} (ha : SA K cw ta a) : SI K cw (iRng2 ta) (eiRng2 a) := fun ρ S σ H0 H m Rk φ rl re h =>
  ha ρ S σ H0 H m _ φ rl re (h.bind fun xs S1 A B n vs _ xt rl1 r1 h1 => by
    split at h1
    · rename_i l j _
      by_cases c : -(2 ^ 62) ≤ l ∧ l < 2 ^ 62 ∧ -(2 ^ 62) ≤ j ∧ j < 2 ^ 62
      · rw [if_pos c] at h1
        cases r1 with
        | cons a r => cases r with | cons b r => cases r; cases a; cases b; exact ⟨l, j, rfl, c, h1.now rl1 (src_rng l _)⟩
      · rw [if_neg c] at h1; exact h1.elim
    · exact h1.elim)
/-- a list, a tuple or a text -/
def nxSeq (x : W) (i : Nat) (S : Hs) : Nxt := match look x S with
  | some (_, ws) => match ws[i]? with
    | some u => .item false [u]
    | none => .stop
  | none => .no
def nxStr (z : Str) (i : Nat) : Nxt := match z.cps[i]? with
  | some c => .item false [.val (.str ⟨#[c]⟩)]
  | none => .stop
def eiSeq (a : Ev) : Ei := fun ρ S => (a ρ S).bind fun x S1 => match x with
  | .val (.str z) => .ok ⟨z.cps.size, fun i _ => nxStr z i⟩ S1
  | x => match look x S1 with
    | some (_, ws) => .ok ⟨ws.length, nxSeq x⟩ S1
    | none => .no
def isT (x : W) : Bool := match x with
  | .val (.tup _) => true
  | _ => false
theorem src_str (z : Str) (b : Nat) : SrcOk K H0 m ⟨b, fun i _ => nxStr z i⟩ (Its z) := by
  intro A H n S _ _ rl i
  dsimp only
  unfold nxStr
  cases e : z.cps[i]? with
  | none => exact Nat.le_of_not_lt fun l => by rw [Array.getElem?_eq_getElem l] at e; cases e
  | some c =>
    have l : i < z.cps.size := by
      rcases Nat.lt_or_ge i z.cps.size with l | l
      · exact l
      · rw [Array.getElem?_eq_none l] at e; cases e
    refine ⟨l, fun x H' y => ?_⟩
    obtain ⟨rfl, c', e', rfl⟩ := y
    rw [e] at e'
    cases e'
    exact ⟨A, Xt.refl, rl, by unfold ItemRel; rw [if_neg Bool.false_ne_true]; exact ⟨_, rfl, RD.str _⟩⟩
theorem sq_same {a : Addr} {xs ys : List V} (h : H a = some (.lst xs)) (rl : Evl.Ex H0 H) : SqL K H a xs := Evl.sq_of h
theorem src_seqL {x : W} {v : V} {a : Addr} (b : Nat) (r : RW K H0 m x v) (ev : v = .ref a) (nt : isT x = false) : SrcOk K H0 m ⟨b, nxSeq x⟩ (Itl K a) := by
  intro A H n S e k rl i
  dsimp only
  unfold nxSeq
  cases q : look x S with
  | none => trivial
  | some p =>
    obtain ⟨kd, ws⟩ := p
    obtain ⟨a2, vs, L⟩ := look_ok q rl (r.mono e k)
    have ea : a2 = a := by have z := L.eq; rw [ev] at z; cases z; rfl
    subst ea
    have sl : SqL K H a2 vs := by
      cases kd with
      | l => exact Evl.sq_of (L.l rfl)
      | s => exact L.s rfl
      | t =>
        unfold look at q
        split at q
        · cases q
        · cases nt
        · cases q
        · split at q <;> cases q
        · cases q
    dsimp only
    cases q2 : ws[i]? with
    | none =>
      refine ⟨vs, sl, ?_⟩
      rw [← L.rel.len]
      exact Nat.le_of_not_lt fun l => by rw [List.getElem?_eq_getElem l] at q2; cases q2
    | some u =>
      obtain ⟨vu, e1, r1⟩ := L.rel.get q2
      refine ⟨⟨vs, vu, sl, e1⟩, fun x' H' y => ?_⟩
      obtain ⟨rfl, y⟩ := y
      have z := y vs sl
      rw [e1] at z
      cases z
      exact ⟨A, Xt.refl, rl, by unfold ItemRel; rw [if_neg Bool.false_ne_true]; exact ⟨_, rfl, r1⟩⟩
theorem src_seqT {x : W} {v : V} {a : Addr} (b : Nat) (r : RW K H0 m x v) (ev : v = .ref a) (nt : isT x = true) : SrcOk K H0 m ⟨b, nxSeq x⟩ (Itt K a) := by
  intro A H n S e k rl i
  dsimp only
  unfold nxSeq
  cases q : look x S with
  | none => trivial
  | some p =>
    obtain ⟨kd, ws⟩ := p
    obtain ⟨a2, vs, L⟩ := look_ok q rl (r.mono e k)
    have ea : a2 = a := by have z := L.eq; rw [ev] at z; cases z; rfl
    subst ea
    have sl : SqT K H a2 vs := by
      unfold isT at nt
      split at nt
      · unfold look at q
        cases q
        exact L.t rfl
      · cases nt
    dsimp only
    cases q2 : ws[i]? with
    | none =>
      refine ⟨vs, sl, ?_⟩
      rw [← L.rel.len]
      exact Nat.le_of_not_lt fun l => by rw [List.getElem?_eq_getElem l] at q2; cases q2
    | some u =>
      obtain ⟨vu, e1, r1⟩ := L.rel.get q2
      refine ⟨⟨vs, vu, sl, e1⟩, fun x' H' y => ?_⟩
      obtain ⟨rfl, y⟩ := y
      have z := y vs sl
      rw [e1] at z
      cases z
      exact ⟨A, Xt.refl, rl, by unfold ItemRel; rw [if_neg Bool.false_ne_true]; exact ⟨_, rfl, r1⟩⟩
theorem pi_or {X : Cx} {tg iter : Expr} {w1 w2 : TI} (h1 : PI X tg iter w1) (h2 : PI X tg iter w2) : PI X tg iter (fun σ H Rk => w1 σ H Rk ∨ w2 σ H Rk) :=
  ⟨fun pins s σ H Rk I h => h.elim (fun z => h1.run pins s σ H Rk I z) fun z => h2.run pins s σ H Rk I z⟩
abbrev iSeq (K : PySem.W.Frag) (te : TE) : TI := fun σ H Rk => iList K te σ H Rk ∨ (iTup K te σ H Rk ∨ iStr te σ H Rk)
theorem pi_seq {X : Cx} {tg l : Expr} {te : TE} (h1 : PI X tg l (iList X.K te)) (h2 : PI X tg l (iTup X.K te)) (h3 : PI X tg l (iStr te)) : PI X tg l (iSeq X.K te) := pi_or h1 (pi_or h2 h3)
theorem si_seq {cw : Wc} {te : TE} {a : Ev} (ha : SE K cw te a) : SI K cw (iSeq K te) (eiSeq a) := fun ρ S σ H0 H m Rk φ rl re h => by
  cases e : a ρ S with
  | no => unfold eiSeq at h; rw [e] at h; exact False.elim h
  | exc c fs S1 =>
    refine .inl (ha ρ S σ H0 H m _ φ rl re ?_)
    unfold eiSeq at h
    rw [e] at h ⊢
    exact h
  | ok x S1 =>
    have hh := h
    unfold eiSeq at h
    rw [e] at h
    by_cases hs : ∃ z, x = .val (.str z)
    · obtain ⟨z, rfl⟩ := hs
      refine .inr (.inr (ha ρ S σ H0 H m _ φ rl re ?_))
      rw [e]
      intro A B n v xt rl1 r1
      cases r1
      exact ⟨z, rfl, h A B n _ xt rl1 (src_str z _)⟩
    · have h2 : Post K H0 H m (fun A n s J => SrcOk K A n s J) Rk (WE cw.x σ) (match look x S1 with
        | some (_, ws) => .ok ⟨ws.length, nxSeq x⟩ S1
        | none => .no) := by
        cases x with
        | ref i => exact h
        | val d => cases d <;> first | exact h | exact absurd ⟨_, rfl⟩ hs
      cases q : look x S1 with
      | none => rw [q] at h2; exact False.elim h2
      | some p =>
        obtain ⟨kd, ws⟩ := p
        rw [q] at h2
        cases t : isT x with
        | true =>
          refine .inr (.inl (ha ρ S σ H0 H m _ φ rl re ?_))
          rw [e]
          intro A B n v xt rl1 r1
          obtain ⟨a2, vs, L⟩ := look_ok q rl1 r1
          refine ⟨a2, L.eq, ⟨vs, ?_⟩, h2 A B n _ xt rl1 (src_seqT _ r1 L.eq t)⟩
          unfold isT at t
          split at t
          · unfold look at q; cases q; exact L.t rfl
          · cases t
        | false =>
          refine .inl (ha ρ S σ H0 H m _ φ rl re ?_)
          rw [e]
          intro A B n v xt rl1 r1
          obtain ⟨a2, vs, L⟩ := look_ok q rl1 r1
          refine ⟨a2, L.eq, ⟨vs, ?_⟩, h2 A B n _ xt rl1 (src_seqL _ r1 L.eq t)⟩
          cases kd with
          | l => exact Evl.sq_of (L.l rfl)
          | s => exact L.s rfl
          | t =>
            unfold look at q
            split at q
            · cases q
            · cases t
            · cases q
            · split at q <;> cases q
            · cases q
end
end G

set_option Elab.async false
set_option linter.all false
set_option maxRecDepth 100000
set_option maxHeartbeats 1000000
/-! G4: comprehensions. -/
namespace G
open PySem L2

def wipeE (ρ : Env) : List Nat → Env
  | [] => ρ
  | v :: vs => (wipeE ρ vs).set v none
def etYes : Et := fun _ S => .ok true S
def loopC (src : Src) (t : Tk) (c : Et) (b : Ev) : Nat → Nat → Env → List W → Hs → R (List W)
  | k, i, ρ, acc, S => match src.nxt i S with
    | .stop => .ok acc S
    | .no => .no
    | .item row ws => match k with
      | 0 => .no
      | k + 1 => match t.run row ws ρ S with
        | .nx ρ1 S1 => (match c ρ1 S1 with
          | .ok true S2 => (match b ρ1 S2 with
            | .ok x S3 => if acc.length < 16777216 then loopC src t c b k (i + 1) ρ (acc ++ [x]) S3 else .no
            | _ => .no)
          | .ok false S2 => loopC src t c b k (i + 1) ρ acc S2
          | _ => .no)
        | _ => .no
def evLc (own : Bool) (vs : List Nat) (it : Ei) (t : Tk) (c : Et) (b : Ev) : Ev := fun ρ S => (it ρ S).bind fun src S1 => (loopC src t c b src.bound 0 (wipeE ρ vs) [] S1).bind fun acc S2 => mkLst own acc S2
def off (H : Hp) (d : Addr) : Hp := fun b => if b = d then none else H b
section
variable {K : PySem.W.Frag} {w w' : WX} {H0 H A B Hm : Hp} {m n : Mp} {S : Hs} {D : Ends} {ρ : Env} {σ : L2.St}
theorem off_ne {d b : Addr} (h : b ≠ d) : off H d b = H b := if_neg h
theorem off_same {d : Addr} : off H d d = none := if_pos rfl
theorem off_upd {d : Addr} {o : HO} (h : Hm d = none) : off (upd Hm d o) d = Hm := by
  funext b
  by_cases q : b = d
  · rw [q, off_same, h]
  · rw [off_ne q, upd_ne q]
theorem upd_off {d : Addr} {o : HO} (h : H d = some o) : upd (off H d) d o = H := by
  funext b
  by_cases q : b = d
  · rw [q, upd_same, h]
  · rw [upd_ne q, off_ne q]
theorem etyes {cw : Wc} : ST K cw tYes etYes := fun ρ S σ H0 H m Q φ rl re h => h.now rl rfl
theorem REnv.wipe (r : REnv K H0 m ρ σ) : ∀ vs : List Nat, REnv K H0 m (wipeE ρ vs) (wipe σ vs)
  | [] => r
  | v :: vs => (r.wipe vs).clear v
/-- one more object is tracked beside -/
theorem Rl.beside (rl : Rl K A Hm n S) {d : Addr} {o : HO} (h : Hm d = none) : Rl K A (upd Hm d o) n S := by
  have nm : ∀ i a, n i = some a → a ≠ d := fun i a e z => by
    obtain ⟨u, q⟩ := rl.tr i a e
    rw [z, h] at q; cases q
  refine ⟨fun a u e => by rw [upd_ne (ne_of_none (rl.sub a u e) h)]; exact rl.sub a u e, rl.dom, fun i a e => ?_, fun i c e => ?_, rl.inj⟩
  · obtain ⟨u, q⟩ := rl.tr i a e
    exact ⟨u, by rw [upd_ne (nm i a e)]; exact q⟩
  · obtain ⟨a, e1, e2, e3⟩ := rl.own i c e
    exact ⟨a, e1, e2, e3.mono (fun _ _ z => z) (fun _ _ z => z) fun u q => by rw [upd_ne (nm i a e1)]; exact q⟩
/-- .. and stays so, untouched -/
theorem Rl.apart {A' H' : Hp} {n' : Mp} {S' : Hs} (rl : Rl K A Hm n S) {d : Addr} {o : HO} (h : Hm d = none) (xt : Xt A (upd Hm d o) n A' H' n') (rl' : Rl K A' H' n' S') : H' d = some o ∧ Xt A Hm n A' (off H' d) n' ∧ Rl K A' (off H' d) n' S' := by
  have nm : ∀ i a, n i = some a → a ≠ d := fun i a e z => by
    obtain ⟨u, q⟩ := rl.tr i a e
    rw [z, h] at q; cases q
  have a0 : A d = none := by
    cases e : A d with
    | none => rfl
    | some u => rw [rl.sub d u e] at h; cases h
  have e1 : H' d = some o := xt.fr d o upd_same fun i z => nm i d z rfl
  have a1 : A' d = none := by
    cases e : A' d with
    | none => rfl
    | some u =>
      rcases xt.n0 d u e with ⟨o', z⟩ | z | ⟨i, z⟩
      · rw [a0] at z; cases z
      · rw [upd_same] at z; cases z
      · exact absurd rfl (nm i d z)
  have nm' : ∀ i a, n' i = some a → a ≠ d := fun i a e z => by
    subst z
    rcases xt.nw i _ e with q | q
    · exact nm i _ q rfl
    · rw [upd_same] at q; cases q
  have up : ∀ a u, Hm a = some u → upd Hm d o a = some u := fun a u e => by rw [upd_ne (ne_of_none e h)]; exact e
  have dn : ∀ a, upd Hm d o a = none → Hm a = none := fun a e => by
    by_cases q : a = d
    · rw [q]; exact h
    · rw [upd_ne q] at e; exact e
  refine ⟨e1, ⟨xt.h0, xt.mm, fun a u e z => ?_, fun a u e => ?_, fun i a e => ?_, fun a u e => ?_⟩, ⟨fun a u e => ?_, rl'.dom, fun i a e => ?_, fun i c e => ?_, rl'.inj⟩⟩
  · rw [off_ne (ne_of_none e h)]; exact xt.fr a u (up a u e) z
  · obtain ⟨o', q⟩ := xt.tr a u (up a u e)
    exact ⟨o', by rw [off_ne (ne_of_none e h)]; exact q⟩
  · rcases xt.nw i a e with q | q
    · exact .inl q
    · exact .inr (dn a q)
  · rcases xt.n0 a u e with q | q | q
    · exact .inl q
    · exact .inr (.inl (dn a q))
    · exact .inr (.inr q)
  · rw [off_ne (ne_of_none e a1)]; exact rl'.sub a u e
  · obtain ⟨u, q⟩ := rl'.tr i a e
    exact ⟨u, by rw [off_ne (nm' i a e)]; exact q⟩
  · obtain ⟨a, z1, z2, z3⟩ := rl'.own i c e
    exact ⟨a, z1, z2, z3.mono (fun _ _ z => z) (fun _ _ z => z) fun u q => by rw [off_ne (nm' i a z1)]; exact q⟩

/-- a target that touches only the block's own slots -/
def GW (g : TG) (vs : List Nat) : Prop := ∀ (x : V) (σ0 σ : L2.St) (H : Hp) (N : L2.St → Hp → Prop), wipe σ vs = σ0 → g x σ H N → g x σ H (fun σ2 H2 => wipe σ2 vs = σ0 ∧ N σ2 H2)
def GWs (g : TGs) (vs : List Nat) : Prop := ∀ (xs : List V) (σ0 σ : L2.St) (H : Hp) (N : L2.St → Hp → Prop), wipe σ vs = σ0 → g xs σ H N → g xs σ H (fun σ2 H2 => wipe σ2 vs = σ0 ∧ N σ2 H2)
theorem wipe_in {i : Nat} : ∀ {vs : List Nat} {σ : L2.St}, i ∈ vs → i < σ.length → (wipe σ vs)[i]? = some none
  | v :: vs, σ, h, hl => by
    show ((L2.wipe σ vs).set v none)[i]? = some none
    by_cases q : v = i
    · subst q
      exact List.getElem?_set_self (by rw [wipe_length]; exact hl)
    · rw [List.getElem?_set_ne q]
      rcases List.mem_cons.mp h with z | z
      · exact absurd z.symm q
      · exact wipe_in z hl
theorem wipe_set {vs : List Nat} {σ : L2.St} {i : Nat} {v : Option V} (h : i ∈ vs) : wipe (σ.set i v) vs = wipe σ vs := by
  apply List.ext_getElem?
  intro j
  by_cases q : j ∈ vs
  · by_cases l : j < σ.length
    · rw [wipe_in q l, wipe_in q (by simpa using l)]
    · rw [List.getElem?_eq_none (by rw [wipe_length]; simpa using l), List.getElem?_eq_none (by rw [wipe_length]; simpa using l)]
  · rw [wipe_out q, wipe_out q, List.getElem?_set_ne (fun z => q (by rw [← z]; exact h))]
theorem wipe_wipe {vs : List Nat} {σ : L2.St} : wipe (wipe σ vs) vs = wipe σ vs := by
  apply List.ext_getElem?
  intro j
  by_cases q : j ∈ vs
  · by_cases l : j < σ.length
    · rw [wipe_in q l, wipe_in q (by rw [wipe_length]; exact l)]
    · rw [List.getElem?_eq_none (by rw [wipe_length, wipe_length]; simpa using l), List.getElem?_eq_none (by rw [wipe_length]; simpa using l)]
  · rw [wipe_out q]
theorem gw_name {i : Nat} {vs : List Nat} (h : i ∈ vs) : GW (gName i) vs := fun x σ0 σ H N e q => ⟨by rw [wipe_set h]; exact e, q⟩
theorem gws_nil {vs : List Nat} : GWs gNil vs := fun x σ0 σ H N e q => ⟨q.1, e, q.2⟩
theorem gws_cons {g : TG} {gs : TGs} {vs : List Nat} (hm : ∀ (x : V) (σ : L2.St) (H : Hp) (N N' : L2.St → Hp → Prop), (∀ s h, N s h → N' s h) → g x σ H N → g x σ H N') (h : GW g vs) (hs : GWs gs vs) : GWs (gCons g gs) vs := by
  intro xs σ0 σ H N e q
  obtain ⟨v, r, rfl, q⟩ := q
  exact ⟨v, r, rfl, hm _ _ _ _ _ (fun s h' z => hs r σ0 s h' N z.1 z.2) (h v σ0 σ H _ e q)⟩
theorem gm_name {i : Nat} (x : V) (σ : L2.St) (H : Hp) (N N' : L2.St → Hp → Prop) (k : ∀ s h, N s h → N' s h) (q : gName i x σ H N) : gName i x σ H N' := k _ _ q
theorem gw_tup {k : Nat} {gs : TGs} {vs : List Nat} (h : GWs gs vs) : GW (gTup K k gs) vs := by
  intro x σ0 σ H N e q
  obtain ⟨a, xs, e1, e2, e3, q⟩ := q
  exact ⟨a, xs, e1, e2, e3, h xs σ0 σ H N e q⟩

theorem se_lc {cw : Wc} (own : Bool) {wi : TI} {g : TG} {tt : TT} {te : TE} {vs : List Nat} {it : Ei} {t : Tk} {c : Et} {b : Ev} (hi : SI K cw wi it) (hg : STk K w' g t) (hw : GW g vs) (hc : ST K (up w') tt c) (hb : SE K (up w') te b) :
    SE K cw (tLc wi g tt te vs) (evLc own vs it t c b) := fun ρ S σ H0 H m Q φ rl re h => by
  refine hi ρ S σ H0 H m _ φ rl re (h.bind fun src S1 A B n J _ xt rl1 sok h1 => ?_)
  intro d hd
  refine ⟨fun i k G => ∃ (S : Hs) (A Hm : Hp) (n : Mp) (acc : List W) (av : List V), Hm d = none ∧ G = upd Hm d (.lst av) ∧ Rl K A Hm n S ∧ REnv K A n (wipeE ρ vs) (wipe σ vs) ∧ SrcOk K A n src J ∧ RWs K A n acc av ∧
    Post K A Hm n (relW K) Q (WE cw.x σ) ((loopC src t c b k i (wipeE ρ vs) acc S).bind fun acc S2 => mkLst own acc S2), ⟨src.bound, S1, A, B, n, [], [], hd, rfl, rl1, (re.on xt).wipe vs, sok, .nil, h1⟩, ?_⟩
  rintro i k G ⟨S, A, Hm, n, acc, av, hd, rfl, rl, re, sok, ra, h⟩
  have rlG := rl.beside (o := .lst av) hd
  have z := sok A _ n S (fun _ _ q => q) (fun _ _ q => q) rlG i
  unfold loopC at h
  cases e : src.nxt i S with
  | no => rw [e] at h; exact False.elim h
  | stop =>
    rw [e] at h z
    exact .inl ⟨z, Post.newLst (own := own) (ws := acc) h rl ra hd⟩
  | item row ws =>
    rw [e] at h z
    dsimp only at h z
    cases k with
    | zero => exact False.elim h
    | succ k =>
      dsimp only at h
      refine .inr ⟨z.1, fun G => ∃ (S : Hs) (A Hm : Hp) (n : Mp) (acc : List W) (av : List V), Hm d = none ∧ G = upd Hm d (.lst av) ∧ Rl K A Hm n S ∧ REnv K A n (wipeE ρ vs) (wipe σ vs) ∧ SrcOk K A n src J ∧ RWs K A n acc av ∧
        Post K A Hm n (relW K) Q (WE cw.x σ) ((loopC src t c b k (i + 1) (wipeE ρ vs) acc S).bind fun acc S2 => mkLst own acc S2), fun G z => ⟨k, Nat.lt_succ_self k, z⟩, fun x H' y => ?_⟩
      obtain ⟨A', xt, rl', ir⟩ := z.2 x H' y
      refine hw x _ _ _ _ wipe_wipe ?_
      cases e2 : t.run row ws (wipeE ρ vs) S with
      | no => rw [e2] at h; exact False.elim h
      | rt q S => rw [e2] at h; exact False.elim h
      | bk q S => rw [e2] at h; exact False.elim h
      | ct q S => rw [e2] at h; exact False.elim h
      | exc c fs ρ S => rw [e2] at h; exact False.elim h
      | nx ρ1 S1 =>
        rw [e2] at h
        dsimp only at h
        refine hg row ws x (wipeE ρ vs) S (wipe σ vs) A' H' n { nx := _, rt := fun _ _ => False } rl' (re.on xt) ir ?_
        rw [e2]
        intro A1 B1 n1 σ1 y1 r1 re1
        cases e3 : c ρ1 S1 with
        | no => rw [e3] at h; exact False.elim h
        | exc c fs S => rw [e3] at h; exact False.elim h
        | ok q S2 =>
          rw [e3] at h
          refine hc ρ1 S1 σ1 A1 B1 n1 _ trivial r1 re1 ?_
          rw [e3]
          intro A2 B2 n2 q' y2 r2 eq
          have eq' : q = q' := eq
          subst eq'
          cases q with
          | false =>
            rw [if_neg Bool.false_ne_true]
            have xx := (xt.trans y1).trans y2
            obtain ⟨w1, w2, w3⟩ := rl.apart hd xx r2
            exact ⟨S2, A2, off B2 d, n2, acc, av, off_same, (upd_off w1).symm, w3, re.on xx, sok.on xx.h0 xx.mm, RWs.mono xx.h0 xx.mm ra, Post.shift w2 h⟩
          | true =>
            rw [if_pos rfl]
            dsimp only at h
            cases e4 : b ρ1 S2 with
            | no => rw [e4] at h; exact False.elim h
            | exc c fs S => rw [e4] at h; exact False.elim h
            | ok u S3 =>
              rw [e4] at h
              dsimp only at h
              refine hb ρ1 S2 σ1 A2 B2 n2 _ trivial r2 (re1.on y2) ?_
              rw [e4]
              intro A3 B3 n3 v y3 r3 rv
              have xx := ((xt.trans y1).trans y2).trans y3
              obtain ⟨w1, w2, w3⟩ := rl.apart hd xx r3
              by_cases l : acc.length < 16777216
              · rw [if_pos l] at h
                refine ⟨av, w1, by rw [line_eq, ← ra.len]; exact l, S3, A3, off B3 d, n3, acc ++ [u], av ++ [v], off_same, ?_, w3, re.on xx, sok.on xx.h0 xx.mm, (RWs.mono xx.h0 xx.mm ra).app (.cons rv .nil), Post.shift w2 h⟩
                rw [← upd_off w1, upd_upd, off_upd off_same]
              · rw [if_neg l] at h; exact False.elim h
end
end G

set_option Elab.async false
set_option linter.all false
set_option maxRecDepth 100000
set_option maxHeartbeats 1000000
/-! G5: defs and their calls, objects and their fields. -/
namespace G
open PySem L2

abbrev Run := List W → Hs → R W
def startE (n : Nat) (ws : List W) : Env := ws.map some ++ List.replicate (n - ws.length) none
/-- a body's outcome is a call's -/
def RS.toR : RS → R W
  | .nx _ S => .ok (.val .non) S
  | .rt x S => .ok x S
  | .exc c fs _ S => .exc c fs S
  | _ => .no
/-- np parameters, n slots -/
def runF (np n : Nat) (b : Es) : Run := fun ws S => if ws.length = np then (b (startE n ws) S).toR else .no
/-- the promise of a def: it does what run tells -/
def spF (K : PySem.W.Frag) (run : Run) : Sp := fun vs H Q E => ∃ (ws : List W) (S : Hs) (H0 : Hp) (m : Mp), Rl K H0 H m S ∧ RWs K H0 m ws vs ∧ Post K H0 H m (relW K) Q E (run ws S)
section
variable {K : PySem.W.Frag} {w : WX} {H0 H A B : Hp} {m n : Mp} {S : Hs} {ρ : Env} {σ : L2.St} {Q : VK} {E : XK}
theorem runF_len {np k : Nat} {b : Es} {ws : List W} (h : Post K H0 H m (relW K) Q E (runF np k b ws S)) : ws.length = np := by
  unfold runF at h
  by_cases q : ws.length = np
  · exact q
  · rw [if_neg q] at h; exact h.elim
theorem spF_len {np k : Nat} {b : Es} {vs : List V} (h : spF K (runF np k b) vs H Q E) : vs.length = np := by
  obtain ⟨ws, S, H0, m, _, r, p⟩ := h
  rw [← r.len]; exact runF_len p
theorem REnv.begin_ {N : List Str} {ws : List W} {vs : List V} (r : RWs K H0 m ws vs) : REnv K H0 m (startE N.length ws) (L2.start N vs) := by
  refine ⟨by simp [startE, L2.start, r.len], fun i x e => ?_⟩
  unfold startE at e
  unfold L2.start
  by_cases l : i < ws.length
  · rw [List.getElem?_append_left (by simpa using l), List.getElem?_map] at e
    cases q : ws[i]? with
    | none => rw [q] at e; cases e
    | some y =>
      rw [q] at e
      have e2 : y = x := Option.some.inj (Option.some.inj e)
      subst e2
      obtain ⟨v, hv, rv⟩ := r.get q
      exact ⟨v, by rw [List.getElem?_append_left (by rw [List.length_map, ← r.len]; exact l), List.getElem?_map, hv]; rfl, rv⟩
  · rw [List.getElem?_append_right (by simpa using Nat.le_of_not_lt l)] at e
    rw [List.getElem?_replicate] at e
    split at e
    · cases e
    · cases e
/-- a def whose body is told -/
theorem fn_ok {P : Program} {wd : World} {mg : Str → Option Value} {base : Heap} {x qual : Str} {params : Arguments} {body : List Stmt} {scope : Scope} {dvs : List V} {kws : List (Str × V)} {f : Addr} {fd : FuncData} {N ps : List Str} {k : Nat} {b : Es}
    (F : FunD K x qual params body scope dvs kws f fd) (Sc : FnScope N ps scope) (nl : Nat) (hn : N.length = nl)
    (hb : ∀ (cdv : Value) (A : Around) (outer : List PySem.Env) (s : Shared) (H : Hp) (E : XK), Room k (A.deeper (PyProof.Rows.envOfC qual scope s.heap.objs.size f cdv)) →
      ∃ t, PSs (cxOf (L2.CX P wd) P wd K mg base N qual scope f cdv A outer s H E) body t ∧ SS K (fun cls d _ H => E cls d H) t b) : FnOk P wd K mg base (L2.CX P wd) (k + 1) f fd ps (spF K (runF ps.length nl b)) := by
  refine F.ok Sc (fun vs H Q E h => spF_len h) (fun cdv A outer s H vs Q E hr h => ?_)
  obtain ⟨t, h1, h2⟩ := hb cdv A outer s H E hr
  refine ⟨t, h1, ?_⟩
  obtain ⟨ws, S, H0, m, rl, r, p⟩ := h
  have l := runF_len p
  unfold runF at p
  rw [if_pos l] at p
  subst hn
  refine h2 _ S _ H0 H m _ rl (REnv.begin_ r) ?_
  cases e : b (startE N.length ws) S with
  | nx ρ S => rw [e] at p; exact fun A B n s y z u => p A B n _ y z RD.non
  | ct ρ S => rw [e] at p; exact p.elim
  | bk ρ S => rw [e] at p; exact p.elim
  | rt q S => rw [e] at p; exact fun A B n v y z u => p A B n v y z u
  | exc c fs ρ S => rw [e] at p; exact fun A B n s d gs y z u e f => p A B n d gs y z e f
  | no => rw [e] at p; exact p.elim

/-! ### calls: of plain values over an empty store -/
def callV (run : Run) : Run := fun ws S => match vals? ws with
  | some _ => (match run ws [] with
    | .ok (.val d) _ => .ok (.val d) S
    | .ok (.ref i) S' => (match S'[i]? with
      | some (some (.lst xs)) => (match vals? xs with
        | some _ => .ok (.ref S.length) (S ++ [some (.lst xs)])
        | none => .no)
      | _ => .no)
    | .exc c fs _ => .exc c fs S
    | .no => .no)
  | none => run ws S
def mp0 : Mp := fun _ => none
theorem Rl.zero (rl : Rl K H0 H m S) : Rl K H0 H mp0 [] := ⟨rl.sub, (fun _ _ e => nomatch e), (fun _ _ e => nomatch e), (fun i c e => by simp at e), (fun _ _ _ e => nomatch e)⟩
/-- what was done without the owned cells left them alone -/
theorem Rl.widen {S' : Hs} (rl : Rl K H0 H m S) (xt : Xt H0 H mp0 A B n) (rl' : Rl K A B n S') : Xt H0 H m A B m ∧ Rl K A B m S := by
  have fr : ∀ a o, H a = some o → B a = some o := fun a o e => xt.fr a o e (fun _ z => nomatch z)
  refine ⟨⟨xt.h0, fun _ _ z => z, fun a o e _ => fr a o e, xt.tr, fun _ _ z => .inl z, fun a o e => ?_⟩, ⟨rl'.sub, rl.dom, fun i a e => ?_, fun i c e => ?_, rl.inj⟩⟩
  · rcases xt.n0 a o e with z | z | ⟨i, z⟩
    · exact .inl z
    · exact .inr (.inl z)
    · cases z
  · obtain ⟨o, z⟩ := rl.tr i a e
    exact ⟨o, fr a o z⟩
  · obtain ⟨a, e1, e2, e3⟩ := rl.own i c e
    obtain ⟨o, ho⟩ := rl.tr i a e1
    refine ⟨a, e1, ?_, e3.mono xt.h0 (fun _ _ z => z) fun u q => fr a u q⟩
    cases q : A a with
    | none => rfl
    | some u =>
      rcases xt.n0 a u q with ⟨o', z⟩ | z | ⟨j, z⟩
      · rw [e2] at z; cases z
      · rw [ho] at z; cases z
      · cases z
theorem call_lift {run : Run} {ws : List W} {vs : List V} (rl : Rl K H0 H m S) (r : RWs K H0 m ws vs) (h : Post K H0 H m (relW K) Q E (callV run ws S)) : spF K run vs H Q E := by
  unfold callV at h
  cases q : vals? ws with
  | none => rw [q] at h; exact ⟨ws, S, H0, m, rl, r, h⟩
  | some ds =>
    rw [q] at h
    dsimp only at h
    have rd := vals?_rel q r
    have ew : ws = ds.map W.val := by
      clear h r rd rl
      induction ws generalizing ds with
      | nil => cases q; rfl
      | cons x xs ih =>
        cases x with
        | ref i => cases q
        | val d =>
          have q2 : (vals? xs).map (d :: ·) = some ds := q
          cases z : vals? xs with
          | none => rw [z] at q2; cases q2
          | some es => rw [z] at q2; cases q2; rw [ih es z]; rfl
    refine ⟨ws, [], H0, mp0, rl.zero, by rw [ew]; exact rd.toW, ?_⟩
    cases e : run ws [] with
    | no => rw [e] at h; exact h.elim
    | exc c fs S' =>
      rw [e] at h
      intro A B n d gs xt rl' e1 e2
      obtain ⟨x2, r2⟩ := rl.widen xt rl'
      exact h A B m d gs x2 r2 e1 e2
    | ok x S' =>
      rw [e] at h
      cases x with
      | val d =>
        intro A B n v xt rl' rv
        obtain ⟨x2, r2⟩ := rl.widen xt rl'
        exact h A B m v x2 r2 rv
      | ref i =>
        dsimp only at h
        split at h
        · rename_i xs e3
          split at h
          · rename_i ds' e4
            intro A B n v xt rl' rv
            obtain ⟨a, ea, ev⟩ := rv
            subst ev
            obtain ⟨x2, r2⟩ := rl.widen xt rl'
            obtain ⟨a2, ea2, a0, us, hb, rb⟩ := rl'.own i _ e3
            rw [ea] at ea2; cases ea2
            have hn : H a = none := by
              rcases xt.nw i a ea with z | z
              · cases z
              · exact z
            have nm : ∀ j b, m j = some b → b ≠ a := fun j b e z => by
              obtain ⟨o, q⟩ := rl.tr j b e
              rw [z, hn] at q; cases q
            have mm : ∀ j b, m j = some b → m.put S.length a j = some b := fun j b e => by
              have := rl.dom j b e
              unfold Mp.put; rw [if_neg (by omega)]; exact e
            have back : ∀ j b, m.put S.length a j = some b → (j = S.length ∧ b = a) ∨ m j = some b := fun j b e => by
              unfold Mp.put at e
              by_cases q : j = S.length
              · rw [if_pos q] at e; exact .inl ⟨q, (Option.some.inj e).symm⟩
              · rw [if_neg q] at e; exact .inr e
            have rd' := vals?_rel e4 rb
            have exs : RWs K A (m.put S.length a) xs us := by
              have ew2 : ∀ {xs : List W} {es : List D} {us : List V}, vals? xs = some es → RDs K A es us → RWs K A (m.put S.length a) xs us := by
                intro xs
                induction xs with
                | nil => intro es us q r; cases q; cases r; exact .nil
                | cons x xs ih =>
                  intro es us q r
                  cases x with
                  | ref i => cases q
                  | val d =>
                    have q2 : (vals? xs).map (d :: ·) = some es := q
                    cases z : vals? xs with
                    | none => rw [z] at q2; cases q2
                    | some es' => rw [z] at q2; cases q2; cases r with | cons a r => exact .cons a (ih z r)
              exact ew2 e4 rd'
            refine h A B (m.put S.length a) _ ⟨x2.h0, mm, x2.fr, x2.tr, fun j b e => ?_, x2.n0⟩ ⟨r2.sub, fun j b e => ?_, fun j b e => ?_, fun j c e => ?_, fun j l b z1 z2 => ?_⟩ ⟨a, by unfold Mp.put; rw [if_pos rfl], rfl⟩
            · rcases back j b e with ⟨_, z⟩ | z
              · exact .inr (by rw [z]; exact hn)
              · exact .inl z
            · rw [List.length_append, List.length_singleton]
              rcases back j b e with ⟨z, _⟩ | z
              · omega
              · have := rl.dom j b z; omega
            · rcases back j b e with ⟨_, z⟩ | z
              · exact ⟨_, by rw [z]; exact hb⟩
              · exact r2.tr j b z
            · by_cases q : j < S.length
              · rw [List.getElem?_append_left q] at e
                obtain ⟨b, z1, z2, z3⟩ := r2.own j c e
                exact ⟨b, mm j b z1, z2, z3.mono (fun _ _ z => z) mm fun _ z => z⟩
              · have hj : j = S.length := by
                  rcases Nat.lt_or_ge S.length j with z | z
                  · rw [List.getElem?_eq_none (by simp; omega)] at e; cases e
                  · omega
                subst hj
                rw [List.getElem?_append_right (Nat.le_refl _)] at e
                simp at e
                subst e
                exact ⟨a, by unfold Mp.put; rw [if_pos rfl], a0, us, hb, exs⟩
            · rcases back j b z1 with ⟨y1, y2⟩ | y
              · rcases back l b z2 with ⟨t1, t2⟩ | t
                · omega
                · exact absurd y2 (nm l b t)
              · rcases back l b z2 with ⟨t1, t2⟩ | t
                · exact absurd t2 (nm j b y)
                · exact rl.inj j l b y t
          · exact h.elim
        · exact h.elim
def evCall (run : Run) (a : Ea) : Ev := evCB (callV run) a
theorem se_call {cw : Wc} {run : Run} {t : TA} {a : Ea} (ha : SA K cw t a) : SE K cw (tCallS (spF K run) (WE cw.x) t) (evCall run a) := fun ρ S σ H0 H m Q φ rl re h =>
  ha ρ S σ H0 H m _ φ rl re (h.bind fun xs S1 A B n vs _ xt rl1 r1 h1 => call_lift rl1 r1 h1)

/-! ### objects -/
def evFld (cs : List Str) (f : Str) (a : Ev) : Ev := evUn (fun x S => match x with
  | .val (.obj c fs) => if c ∈ cs then (match fs.lookup f with
    | some d => .ok (.val d) S
    | none => .no) else .no
  | .ref i => (match S[i]? with
    | some (some (.ob c fs)) => if c ∈ cs then (match fs.lookup f with
      | some d => .ok (.val d) S
      | none => .no) else .no
    | _ => .no)
  | _ => .no) a
/-- an object of one of these classes has fields, none of them hidden -/
def FldOk (K : PySem.W.Frag) (cs : List Str) (f : Str) : Prop := ∀ c ∈ cs, Cls K (ca K c) ∧ NoAttr K (ca K c) f
theorem se_fld {cw : Wc} {te : TE} {a : Ev} {cs : List Str} {f : Str} (hk : FldOk K cs f) (ha : SE K cw te a) : SE K cw (tFld K te f) (evFld cs f a) := fun ρ S σ H0 H m Q φ rl re h =>
  ha ρ S σ H0 H m _ φ rl re (h.bind fun x S1 A B n v _ xt rl1 r1 h1 => by
    dsimp only at h1
    split at h1
    · rename_i c fs _
      by_cases q : c ∈ cs
      · rw [if_pos q] at h1
        split at h1
        · rename_i d e
          cases r1 with
          | obj h2 r2 =>
            obtain ⟨u, eu, ru⟩ := r2.look e
            exact ⟨_, _, _, _, u, rfl, rl1.sub _ _ h2, (hk c q).1, (hk c q).2, eu, h1.now rl1 ru⟩
        · exact h1.elim
      · rw [if_neg q] at h1; exact h1.elim
    · split at h1
      · rename_i c fs e3
        by_cases q : c ∈ cs
        · rw [if_pos q] at h1
          split at h1
          · rename_i d e
            obtain ⟨a, ea, ev⟩ := r1
            obtain ⟨a2, ea2, a0, dx, gs, hb, rb, _⟩ := rl1.own _ _ e3
            rw [ea] at ea2; cases ea2
            obtain ⟨u, eu, ru⟩ := rb.look e
            exact ⟨a, _, _, _, u, ev, hb, (hk c q).1, (hk c q).2, eu, h1.now rl1 ru⟩
          · exact h1.elim
        · rw [if_neg q] at h1; exact h1.elim
      · exact h1.elim
    · exact h1.elim)
def putD (f : Str) (v : D) : List (Str × D) → List (Str × D)
  | [] => [(f, v)]
  | (g, x) :: r => if g = f then (g, v) :: r else (g, x) :: putD f v r
theorem RDf.put {ds : List (Str × D)} {vs : List (Str × V)} (h : RDf K H ds vs) {f : Str} {d : D} {v : V} (r : RD K H d v) : RDf K H (putD f d ds) (putF f v vs) := by
  induction ds generalizing vs with
  | nil => cases h; exact .cons r .nil
  | cons p ds ih =>
    cases h with
    | @cons g d' v' _ vs' a q =>
      show RDf K H (if g = f then (g, d) :: ds else (g, d') :: putD f d ds) (if g = f then (g, v) :: vs' else (g, v') :: putF f v vs')
      by_cases z : g = f
      · rw [if_pos z, if_pos z]; exact .cons r q
      · rw [if_neg z, if_neg z]; exact .cons a (ih q)
theorem RDf.len {ds : List (Str × D)} {vs : List (Str × V)} (h : RDf K H ds vs) : ds.length = vs.length := by
  induction ds generalizing vs with
  | nil => cases h; rfl
  | cons p ds ih => cases h with | cons a q => simp [ih q]
/-- self.f = e, self an object of class c that is being made -/
def esFld (c f : Str) (o a : Ev) : Es := fun ρ S => (a ρ S).thenS ρ fun x S1 => (o ρ S1).thenS ρ fun y S2 => match x, y with
  | .val d, .ref i => (match S2[i]? with
    | some (some (.ob c' fs)) => if c' = c ∧ fs.length < 899 then .nx ρ (S2.set i (some (.ob c (putD f d fs)))) else .no
    | _ => .no)
  | _, _ => .no
theorem putD_len (f : Str) (d : D) : ∀ fs : List (Str × D), (putD f d fs).length ≤ fs.length + 1
  | [] => Nat.le_refl _
  | (g, x) :: r => by
    show (if g = f then (g, d) :: r else (g, x) :: putD f d r).length ≤ _
    by_cases z : g = f
    · rw [if_pos z]; simp
    · rw [if_neg z]; have := putD_len f d r; simp; exact this
theorem ss_fld {to te : TE} {o a : Ev} {c f : Str} (hk : Cls K (ca K c) ∧ NoAttr K (ca K c) f) (ho : SE K (up w) to o) (ha : SE K (up w) te a) : SS K w (sFld K to te f) (esFld c f o a) := fun ρ S σ H0 H m D rl re h =>
  ha ρ S σ H0 H m _ trivial rl re (PostS.expr re h fun x S1 A B n v _ xt rl1 r1 h1 => ho ρ S1 σ A B n _ trivial rl1 (re.on xt) (PostS.expr (re.on xt) h1 fun y S2 A2 B2 n2 u _ xt2 rl2 r2 h2 => by
    split at h2
    · rename_i d i _ _
      split at h2
      · rename_i c' fs e3
        by_cases q : c' = c ∧ fs.length < 899
        · rw [if_pos q] at h2
          obtain ⟨q1, q2⟩ := q
          subst q1
          obtain ⟨a, ea, ev⟩ := r2
          obtain ⟨a2, ea2, a0, dx, gs, hb, rb, _⟩ := rl2.own _ _ e3
          rw [ea] at ea2; cases ea2
          have rd : RD K A2 d v := RD.mono xt2.h0 r1
          obtain ⟨x3, r3⟩ := rl2.setCell (o := .ins (ca K c') dx (putF f v gs)) (c := .ob c' (putD f d fs)) ea a0 ⟨dx, _, upd_same, rb.put rd, by have := putD_len f d fs; omega⟩
          exact ⟨a, _, dx, gs, ev, hb, hk.1, hk.2, by rw [← rb.len]; omega, h2 _ _ _ _ x3 r3 (((re.on xt).on xt2).on x3)⟩
        · rw [if_neg q] at h2; exact False.elim h2
      · exact False.elim h2
    · exact False.elim h2))
end
end G

set_option Elab.async false
set_option linter.all false
set_option maxRecDepth 100000
set_option maxHeartbeats 1000000
/-! G6: methods, makers, items and equality of own classes, told at the caller's slots. -/
namespace G
open PySem L2

section
variable {X : Cx} {CX : CXT} {k : Nat} {f C : Addr} {fd : FuncData} {ps : List Str} {sp : Sp} {dvs : List V} {ds : List Value} {E : L2.St → XK} {x m : Str} {p pos apos : Pos} {e o : Expr} {es : List Expr} {ta : TE} {t : TA}
/-- o.m(..), what is raised told at the slots -/
def tMe (C : Addr) (m : Str) (sp : Sp) (dvs : List V) (E : L2.St → XK) (ta : TE) (t : TA) : TE := fun σ H Q =>
  ta σ H fun x H1 => ∃ (a dx : Addr) (fs : List (Str × V)), x = .ref a ∧ H1 a = some (.ins C dx fs) ∧ fs.lookup m = none ∧
    t σ H1 fun vs H2 => sp (x :: vs ++ dvs) H2 Q (E σ)
theorem pe_me {pl : Sem Bool} (he : PE X o ta) (c : Cls X.K C) (hm : Meth X.K C m f) (F : FnOk X.prog X.w X.K X.mg X.base CX k f fd ps sp) (hr : Room k X.A)
    (hb : Binds X.K fd ps ds) (hd : Vals dvs ds) (hx : ∀ σ, PassesAt CX X σ (E σ)) (ha : PA X (e :: es) t)
    (hst : starEach (e :: es) X.env = (false, eval e X.env) :: starEach es X.env := by rfl)
    (hpl : (backTo pos (starEach es X.env)).any (·.1) = false := by rfl)
    (ht : eval (.Call (.Attribute o m apos) (e :: es) [] pos) X.env = (do
      let own ← eval o X.env
      standAt apos.atName
      let (g, first) ← holding [own] (getMethod own m pl)
      callWith pos g first (backTo pos (starEach (e :: es) X.env)) (backToKw pos (keywordEach [] X.env))) := by rfl) :
    PE X (.Call (.Attribute o m apos) (e :: es) [] pos) (tMe C m sp dvs E ta t) := by
  constructor
  intro pins s σ H Q I h
  refine PySem.W.methodCall_KW (pl := pl) (thn (he.run pins s σ H _ I h) ?_) ht
  rintro u s1 ⟨x, H1, I1, rx, a, dx, fs, ex, ea, l, q⟩
  subst ex
  cases rx
  refine getmeth_ok I1 ea c hm l ?_
  refine PySem.W.callWith_K (first := [.ref a]) (h₀ := X.base) I.ok.mod.kin hm.kp (thn (ha.run pos pins s1 σ H1 _ I1 q) ?_) hst hpl
  rintro us s2 ⟨vs, H2, I2, r, q2⟩
  exact ⟨I2.kIn, run_fnSD (us := .ref a :: us) (vs := .ref a :: vs) F hr hb hd (hx σ) I2 (.cons rfl r) q2⟩
theorem pe_me0 {pl : Sem Bool} (he : PE X o ta) (c : Cls X.K C) (hm : Meth X.K C m f) (F : FnOk X.prog X.w X.K X.mg X.base CX k f fd ps sp) (hr : Room k X.A)
    (hb : Binds X.K fd ps ds) (hd : Vals dvs ds) (hx : ∀ σ, PassesAt CX X σ (E σ))
    (ht : eval (.Call (.Attribute o m apos) [] [] pos) X.env = (do
      let own ← eval o X.env
      standAt apos.atName
      let (g, first) ← holding [own] (getMethod own m pl)
      callWith pos g first (backTo pos (starEach [] X.env)) (backToKw pos (keywordEach [] X.env))) := by rfl) :
    PE X (.Call (.Attribute o m apos) [] [] pos) (tMe C m sp dvs E ta tNil) := by
  constructor
  intro pins s σ H Q I h
  refine PySem.W.methodCall_KW (pl := pl) (thn (he.run pins s σ H _ I h) ?_) ht
  rintro u s1 ⟨x, H1, I1, rx, a, dx, fs, ex, ea, l, q⟩
  subst ex
  cases rx
  refine getmeth_ok I1 ea c hm l ?_
  exact PySem.W.callWith_K0 (first := [.ref a]) I1.kIn hm.kp (run_fnSD (us := [.ref a]) (vs := [.ref a]) F hr hb hd (hx σ) I1 (.cons rfl .nil) q)

/-- C(..): a new instance; its __init__ gets the written arguments and the defaults as gV puts them -/
def tMkS (C : Addr) (n m : Nat) (sp : Sp) (gV : List V → List V → List V) (E : L2.St → XK) (t tk : TA) : TE := fun σ H Q =>
  t σ H fun vs H1 => tk σ H1 fun zs H2 => vs.length = n ∧ zs.length = m ∧ ∀ x dx, H2 x = none → H2 dx = none → dx ≠ x →
    sp (gV (.ref x :: vs) zs) (upd (upd H2 dx (.own x)) x (.ins C dx [])) (fun v H3 => v = .non ∧ Q (.ref x) H3) (E σ)
variable {n : Nat} {ks : List Str} {kws : List Keyword} {tk : TA} {g : List Value → List Value → List Value} {gV : List V → List V → List V}
theorem run_mkS {pins : List (Addr × Obj)} {σ : L2.St} {H : Hp} {s : Shared} {Q : VK} {us ws : List Value} {vs zs : List V} {E : XK}
    (M : Mk X.K C f) (F : FnOk X.prog X.w X.K X.mg X.base CX k f fd ps sp) (hr : Room (k + 1) X.A) (hb : KBn X.K fd ps (n + 1) ks g gV) (hx : PassesAt CX X σ E)
    (I : Inv X pins σ H s) (r : Vals vs us) (rz : Vals zs ws) (l1 : vs.length = n) (l2 : zs.length = ks.length)
    (h : ∀ x dx, H x = none → H dx = none → dx ≠ x → sp (gV (.ref x :: vs) zs) (upd (upd H dx (.own x)) x (.ins C dx [])) (fun v H2 => v = .non ∧ Q (.ref x) H2) E) :
    wpAny (model X.prog X.w) X.A (call (.ref C) us (ks.zip ws)) (EP X pins σ Q) X.xe s := by
  have hsz := I.hok.fresh (Nat.le_refl s.heap.objs.size)
  have hq := h (s.heap.objs.size + 1) s.heap.objs.size (I.hok.fresh (Nat.le_succ _)) hsz (Nat.ne_of_lt (Nat.lt_succ_self _))
  have J := Inv.made (C := C) I
  have n1 : (Value.ref (s.heap.objs.size + 1) :: us).length = n + 1 := by
    rw [List.length_cons, ← r.length, l1]
  have r2 := hb.rel (vs := V.ref (s.heap.objs.size + 1) :: vs) (us := Value.ref (s.heap.objs.size + 1) :: us) (.cons rfl r) rz
  have hto := hb.to _ (Value.ref (s.heap.objs.size + 1) :: us) ws J.kIn n1 (rz.length.symm.trans l2)
  have run := F.run _ X.stack _ _ ⟨Value.ref (s.heap.objs.size + 1) :: us, ks.zip ws⟩ (g (Value.ref (s.heap.objs.size + 1) :: us) ws) _ _ E
    (hr.make C us (ks.zip ws)) (J.env0.make C us (ks.zip ws)) hto r2 hq
  refine wpAny_call (make_map (f := f) I.kIn M.makes M.init (beq_iff_eq.mp M.fn) (codeAny_mono run ?_))
  intro r s' hq'
  cases r with
  | error e => exact hx pins _ _ e s' J hq'
  | ok fl =>
    cases fl with
    | ret u =>
      obtain ⟨v, H', J2, rv, ev, q3⟩ := J.after hq'
      subst ev
      exact ⟨rv, V.ref (s.heap.objs.size + 1), H', J2, rfl, q3⟩
    | _ => exact False.elim hq'
theorem pe_mkS (M : Mk X.K C f) (F : FnOk X.prog X.w X.K X.mg X.base CX k f fd ps sp) (hr : Room (k + 1) X.A) (hg : Gl X x) (hm : X.mg x = some (.ref C))
    (hb : KBn X.K fd ps (n + 1) ks g gV) (hx : ∀ σ, PassesAt CX X σ (E σ)) (ha : PA X (e :: es) t) (hkw : PK X kws tk)
    (hall : (backToKw pos (keywordEach kws X.env)).all (·.1.isSome) = true := by rfl)
    (hks : (backToKw pos (keywordEach kws X.env)).filterMap (·.1) = ks := by rfl)
    (hdb : (x == ("__debug__" : Str)) = false := by decide)
    (he : starEach (e :: es) X.env = (false, eval e X.env) :: starEach es X.env := by rfl)
    (hpl : ((backTo pos (starEach (e :: es) X.env)).any (·.1) || (backToKw pos (keywordEach kws X.env)).any (·.1.isNone)) = false := by rfl) :
    PE X (.Call (.Name x p) (e :: es) kws pos) (tMkS C n ks.length sp gV E t tk) := by
  constructor
  intro pins s σ H Q I h
  refine wpAny_Call_Name_kw (ld_glob I hg hm ?_ hdb)
  refine PySem.W.callWith_KW (h₀ := X.base) I.ok.mod.kin M.kp hall (thn (ha.run pos pins s σ H _ I h) ?_) hpl he
  rintro us s1 ⟨vs, H1, I1, r, q⟩
  refine thn (hkw.run pos pins s1 σ H1 _ I1 q) ?_
  rintro ws s2 ⟨zs, H2, I2, rz, l1, l2, q2⟩
  refine ⟨I2.kIn, ?_⟩
  rw [hks]
  exact run_mkS M F hr hb (hx σ) I2 r rz l1 l2 q2
end

/-! ### their evaluators -/
def evMe (c m : Str) (run : Run) (dfl : List D) (o : Ev) (a : Ea) : Ev := fun ρ S => (o ρ S).bind fun x S1 => match x with
  | .val (.obj c' fs) => if c' = c ∧ fs.lookup m = none then ((a ρ S1).bind fun ws S2 => callV run (x :: ws ++ dfl.map .val) S2) else .no
  | _ => .no
section
variable {K : PySem.W.Frag} {w : WX} {H0 H A B : Hp} {m n : Mp} {S : Hs} {ρ : Env} {σ : L2.St} {Q : VK} {E : XK}
theorem se_me {cw : Wc} {c mt : Str} {run : Run} {dfl : List D} {dvs : List V} {o : Ev} {a : Ea} {ta : TE} {t : TA} (hd : ∀ H0, RDs K H0 dfl dvs) (ho : SE K cw ta o) (ha : SA K cw t a) :
    SE K cw (tMe (ca K c) mt (spF K run) dvs (WE cw.x) ta t) (evMe c mt run dfl o a) := fun ρ S σ H0 H m Q φ rl re h =>
  ho ρ S σ H0 H m _ φ rl re (h.bind fun x S1 A B n v _ xt rl1 r1 h1 => by
    split at h1
    · rename_i c' fs _
      by_cases q : c' = c ∧ fs.lookup mt = none
      · rw [if_pos q] at h1
        obtain ⟨q1, q2⟩ := q
        subst q1
        cases r1 with
        | @obj _ _ a dx gs h2 r2 =>
          refine ⟨a, dx, gs, rfl, rl1.sub _ _ h2, r2.nolook q2, ha ρ S1 σ A B n _ (φ.on xt) rl1 (re.on xt) (h1.bind fun ws S2 A2 B2 n2 vs _ xt2 rl2 r3 h3 => ?_)⟩
          have rx : RW K A2 n2 (.val (.obj c' fs)) (.ref a) := RD.mono xt2.h0 (RD.obj h2 r2)
          exact call_lift rl2 (RWs.app (.cons rx r3) (hd A2).toW) h3
      · rw [if_neg q] at h1; exact h1.elim
    · exact h1.elim)
/-- a new object of class c -/
def makeR (c : Str) (run : Run) : Run := fun ws S => match run (.ref S.length :: ws) (S ++ [some (.ob c [])]) with
  | .ok (.val .non) S' => (match S'[S.length]? with
    | some (some (.ob c' fs)) => if c' = c then .ok (.val (.obj c fs)) (S'.set S.length none) else .no
    | _ => .no)
  | .ok _ _ => .no
  | .exc e fs S' => .exc e fs S'
  | .no => .no
/-- run with its first argument apart: put behind the others by gW -/
def viaR (gW : List W → List W → List W) (run : Run) (zs : List W) : Run := fun ws S => run (gW ws zs) S
/-- the maker's promise, for a new object at any free place -/
def spMk (K : PySem.W.Frag) (c : Str) (sp : Sp) (args : List V → List V) : Sp := fun vs H Q E => ∀ x dx, H x = none → H dx = none → dx ≠ x →
  sp (args (.ref x :: vs)) (upd (upd H dx (.own x)) x (.ins (ca K c) dx [])) (fun v H3 => v = .non ∧ Q (.ref x) H3) E
theorem Xt.aside (rl : Rl K H0 H m S) {d : Addr} {o : HO} (h : H d = none) : Xt H0 H m H0 (upd H d o) m :=
  ⟨fun _ _ z => z, fun _ _ z => z, fun a u e _ => by rw [upd_ne (ne_of_none e h)]; exact e, fun a u e => ⟨u, by rw [upd_ne (ne_of_none e h)]; exact e⟩, fun _ _ z => .inl z, fun a u z => .inl ⟨u, z⟩⟩
theorem make_ok {c : Str} {run : Run} {ws : List W} {vs : List V} (rl : Rl K H0 H m S) (r : RWs K H0 m ws vs) (h : Post K H0 H m (relW K) Q E (makeR c run ws S)) : spMk K c (spF K run) id vs H Q E := by
  intro x dx hx hdx hne
  have x1 := Xt.aside rl (o := .own x) hdx
  have r1 := rl.beside (o := .own x) hdx
  have hx' : upd H dx (.own x) x = none := by rw [upd_ne (Ne.symm hne)]; exact hx
  obtain ⟨x2, r2⟩ := r1.newCell (o := .ins (ca K c) dx []) (c := .ob c []) hx' ⟨dx, [], upd_same, .nil, Nat.zero_le _⟩
  have x12 := x1.trans x2
  refine ⟨.ref S.length :: ws, S ++ [some (.ob c [])], H0, m.put S.length x, r2, .cons ⟨x, by unfold Mp.put; rw [if_pos rfl], rfl⟩ (r.mono x12.h0 x12.mm), ?_⟩
  unfold makeR at h
  cases e : run (.ref S.length :: ws) (S ++ [some (.ob c [])]) with
  | no => rw [e] at h; exact h.elim
  | exc c' fs S' =>
    rw [e] at h
    intro A B n d gs xt rl' e1 e2
    exact h A B n d gs (x12.trans xt) rl' e1 e2
  | ok y S' =>
    rw [e] at h
    cases y with
    | ref i => exact h.elim
    | val d =>
      cases d with
      | non =>
        dsimp only at h
        intro A B n v xt rl' rv
        cases rv
        refine ⟨rfl, ?_⟩
        split at h
        · rename_i c' fs e3
          by_cases q : c' = c
          · rw [if_pos q] at h
            subst q
            obtain ⟨a, ea, a0, dx', gs, hb, rb, _⟩ := rl'.own _ _ e3
            have ex : n S.length = some x := xt.mm _ _ (by unfold Mp.put; rw [if_pos rfl])
            rw [ea] at ex; cases ex
            obtain ⟨x3, r3⟩ := rl'.thaw ea a0 hb
            exact h _ _ _ _ ((x12.trans xt).trans x3) r3 (RD.obj upd_same (RDf.mono x3.h0 rb))
          · rw [if_neg q] at h; exact h.elim
        · exact h.elim
      | _ => exact h.elim
/-- what is promised over a new cell is promised of plain values over an empty store -/
theorem mk_lift {c : Str} {run : Run} {ws : List W} {vs : List V} (rl : Rl K H0 H m S) (r : RWs K H0 m ws vs) (h : Post K H0 H m (relW K) Q E (callV (makeR c run) ws S)) : spMk K c (spF K run) id vs H Q E := by
  obtain ⟨ws', S', H0', m', rl', r', h'⟩ := call_lift rl r h
  exact make_ok rl' r' h'
def evMk (c : Str) (n mm : Nat) (run : Run) (put : List W → List W → List W) (a k : Ea) : Ev := fun ρ S => (a ρ S).bind fun ws S1 => (k ρ S1).bind fun zs S2 =>
  if ws.length = n ∧ zs.length = mm then callV (makeR c run) (put ws zs) S2 else .no
/-- put: the arguments in the parameters' order, self apart -/
theorem se_mk {cw : Wc} {c : Str} {nn mm : Nat} {run : Run} {put : List W → List W → List W} {gV : List V → List V → List V} {t tk : TA} {a k : Ea}
    (hp : ∀ (H0 : Hp) (m : Mp) (ws zs : List W) (vs us : List V) (x : V), ws.length = nn → zs.length = mm → RWs K H0 m ws vs → RWs K H0 m zs us → ∃ ts, gV (x :: vs) us = x :: ts ∧ RWs K H0 m (put ws zs) ts)
    (ha : SA K cw t a) (hk : SA K cw tk k) : SE K cw (tMkS (ca K c) nn mm (spF K run) gV (WE cw.x) t tk) (evMk c nn mm run put a k) := fun ρ S σ H0 H m Q φ rl re h =>
  ha ρ S σ H0 H m _ φ rl re (h.bind fun ws S1 A B n vs _ xt rl1 r1 h1 => hk ρ S1 σ A B n _ (φ.on xt) rl1 (re.on xt) (h1.bind fun zs S2 A2 B2 n2 us _ xt2 rl2 r2 h2 => by
    by_cases q : ws.length = nn ∧ zs.length = mm
    · rw [if_pos q] at h2
      have r1' := r1.mono xt2.h0 xt2.mm
      refine ⟨by rw [← r1.len]; exact q.1, by rw [← r2.len]; exact q.2, fun x dx hx hdx hne => ?_⟩
      obtain ⟨ts, e1, e2⟩ := hp A2 n2 ws zs vs us (.ref x) q.1 q.2 r1' r2
      rw [e1]
      exact mk_lift rl2 e2 h2 x dx hx hdx hne
    · rw [if_neg q] at h2; exact h2.elim))
end
end G

set_option Elab.async false
set_option linter.all false
set_option maxRecDepth 100000
set_option maxHeartbeats 4000000
/-! G7: exception classes of one's own below Exception, whose __init__ keeps its arguments. -/
namespace PySem
namespace GX
open PySem.W PySem.Calls PyProof.Rows
/-- own classes, then what Exception stands under -/
def refsX : List Value → Bool
  | .ref _ :: r => refsX r
  | .type n :: r => (Value.type n :: r) == ESX.exTail
  | _ => false
theorem refsX_pass (self : Value) : ∀ l : List Value, refsX l = true → refuseLoop self "__setattr__" l = pure ()
  | .ref c :: r, e => by rw [refuseLoop_ref]; exact refsX_pass self r e
  | .type n :: r, e => by
    have q : Value.type n :: r = ESX.exTail := beq_iff_eq.mp e
    rw [q]
    exact F.store_Exception.passes self
theorem refsX_has (Y : String) : ∀ l : List Value, refsX l = true → l.contains (.type Y) = ESX.exTail.contains (.type Y)
  | .ref c :: r, e => by rw [List.contains_cons, refsX_has Y r e]; rfl
  | .type n :: r, e => by
    have q : Value.type n :: r = ESX.exTail := beq_iff_eq.mp e
    rw [q]
theorem refsX_ne : ∀ {l : List Value}, refsX l = true → l.isEmpty = false
  | .ref _ :: _, _ => rfl
  | .type _ :: _, _ => rfl
section
open Builtin Builtin.ObjectAttr
variable {prog : Program} {w : World} {A : Around} {E : Value → Shared → Prop} {R : Result → Shared → Prop} {hp : Heap} {g : Array GenState} {d : Drawn} {t : Nat} {os : OsState}
theorem to_dict {K : W.Frag} {name : Str} {tk : Tok} {v : Value} {x C : Addr} {ox : Obj} {od : Option Obj} {cd : ClassData} (X : K.In hp) (I : W.InstAt hp x ox C od)
    (hcd : W.clsIn K C = some cd) (hm : refsX cd.mro = true) (ha : W.findIn K (.ref C) name = some none)
    (hq : wpAny (model prog w) A.in1 (storeInOwnDict (.ref x) (.ref C) (.str name tk) name v false)
      (fun fin s' => match fin with
        | .done f => R (.ok f) s'
        | .again c' => c'.quiet = true ∧ codeAny (model prog w) A c' R s') (fun e s' => R (.error e) s') ⟨hp, g, d, t, os⟩) :
    codeAny (model prog w) A (.call (.builtin "object.__setattr__") ⟨[.ref x, .str name tk, v], []⟩) R ⟨hp, g, d, t, os⟩ := by
  have SF := F.store_object
  have hob : cd.mro.contains (.type "object") = true := (refsX_has "object" _ hm).trans (by decide +kernel)
  have hin : W.mroIn K C (.type "object") = some true := by
    unfold W.mroIn
    rw [hcd, Option.bind_some, if_neg (by rw [refsX_ne hm]; exact Bool.false_ne_true), hob]
  have sub : W.Looks (model prog w) hp (isInstance (.ref x) (.type "object")) true := I.type.andThen (W.looks_mroIn X hin)
  have hmr : W.Looks (model prog w) hp (mroOf (.ref C)) cd.mro := (W.looks_clsIn X hcd).andThen .now
  have L3 : W.Looks (model prog w) hp (storeTaker? none) none := .now
  refine codeAny_call_builtin SF.slot.plain SF.entry
    (@W.check_slot (model prog w) _ _ ⟨hp, g, d, t, os⟩ "object.__setattr__" "object" "__setattr__" (.ref x) [.str name tk, v] [] _ SF.kind SF.split sub (SF.args (.ref x) (.str name tk) v) ?_)
  rw [W.osa_eq, refuse_eq]
  refine wpAny_bind (wpAny_bind (I.type.at (wpAny_bind (hmr.at ?_))))
  rw [refsX_pass _ _ hm]
  exact wpAny_pure (wpAny_bind (I.type.at (wpAny_bind ((W.looks_findIn X ha).at (wpAny_bind (L3.at hq))))))
theorem first_field {K : W.Frag} {name : Str} {tk : Tok} {v : Value} {x C : Addr} {fv : Array Value} {cd : ClassData}
    (X : K.In hp) (hx : hp.get? x = some { cls := .ref C, data := .fields fv }) (hcd : W.clsIn K C = some cd) (hm : refsX cd.mro = true) (hh : cd.hasDict = true) (ha : W.findIn K (.ref C) name = some none)
    (hq : ∀ h' tk' dx, (∀ b o, b ≠ x → hp.get? b = some o → h'.get? b = some o) → hp.objs.size ≤ dx → dx ≠ x →
      h'.get? x = some { cls := .ref C, dict := some dx, data := .fields fv } → h'.Ns1 dx (fun y => if y = name then some v else none) → R (.ok (.ret .none)) ⟨h', g, d, tk', os⟩) :
    codeAny (model prog w) A (.call (.builtin "object.__setattr__") ⟨[.ref x, .str name tk, v], []⟩) R ⟨hp, g, d, t, os⟩ := by
  have J : W.InstAt hp x { cls := .ref C, data := .fields fv } C none := ⟨hx, rfl, rfl, trivial⟩
  have hxs : hp.objs.size ≠ x := (Nat.ne_of_lt (Heap.lt_size hx)).symm
  have hcls : W.Looks (model prog w) hp (classData C) cd := W.looks_clsIn X hcd
  refine to_dict X J hcd hm ha ?_
  obtain ⟨nm, bs, mro, ns, qn, hd, sn, sb, ab, col, del⟩ := cd
  cases (show hd = true from hh)
  unfold storeInOwnDict ownDictForStores
  repeat (first
    | with_reducible refine HandSPX.store_in_new ?_ ?_
    | with_reducible refine wpAny_loadPart_at hx ?_
    | with_reducible refine hcls.at ?_
    | wp_step)
  · refine ⟨_, #[], _, (Heap.get?_update_ne _ _ _ _ hxs).trans (Heap.get?_push_at rfl rfl), rfl, ?_, fun _ => rfl⟩
    exact fun e he => absurd he (by simp)
  · intro h' tk' hn' hs
    have hx₁ : (hp.push { cls := .type "dict", data := .dict #[] }).get? x = some { cls := .ref C, data := .fields fv } := Heap.get?_push_of_some _ hx
    refine hq h' tk' hp.objs.size ?_ (Nat.le_refl _) hxs ?_ hn'
    · intro b o hb ho
      refine (hs.2 b (Nat.ne_of_lt (Heap.lt_size ho))).trans ?_
      exact (Heap.get?_update_ne _ _ _ _ hb).trans (Heap.get?_push_of_some _ ho)
    · exact (hs.2 x hxs.symm).trans (Heap.get?_update_self _ hx₁ rfl)
theorem next_field {K : W.Frag} {name : Str} {tk : Tok} {v : Value} {x C dx : Addr} {fv : Array Value} {cd : ClassData} {m0 : Str → Option Value} {nl : List Str}
    (X : K.In hp) (hx : hp.get? x = some { cls := .ref C, dict := some dx, data := .fields fv }) (hns : hp.Ns1 dx m0) (hw : Within m0 nl) (hz : nl.length ≤ 1000) (hcd : W.clsIn K C = some cd)
    (hm : refsX cd.mro = true) (hh : cd.hasDict = true) (ha : W.findIn K (.ref C) name = some none)
    (hq : ∀ h' tk', (∀ b o, b ≠ dx → hp.get? b = some o → h'.get? b = some o) → h'.Ns1 dx (fun y => if y = name then some v else m0 y) → R (.ok (.ret .none)) ⟨h', g, d, tk', os⟩) :
    codeAny (model prog w) A (.call (.builtin "object.__setattr__") ⟨[.ref x, .str name tk, v], []⟩) R ⟨hp, g, d, t, os⟩ := by
  obtain ⟨oD, esD, epD, hoD, hdD, _⟩ := hns.count hw
  have J : W.InstAt hp x { cls := .ref C, dict := some dx, data := .fields fv } C (some oD) := ⟨hx, rfl, rfl, hoD⟩
  have hcls : W.Looks (model prog w) hp (classData C) cd := W.looks_clsIn X hcd
  refine to_dict X J hcd hm ha ?_
  obtain ⟨nm, bs, mro, ns, qn, hd, sn, sb, ab, col, del⟩ := cd
  cases (show hd = true from hh)
  unfold storeInOwnDict ownDictForStores
  repeat (first
    | with_reducible refine OEX.store_in_old hns hw hz ?_
    | with_reducible refine wpAny_loadPart_at hx ?_
    | with_reducible refine hcls.at ?_
    | wp_step)
  exact fun h' tk' hn' hs => hq h' tk' (fun b o hb ho => (hs.2 b hb).trans ho) hn'
end
end GX
end PySem

namespace G
open PySem PySem.Spec PyProof.Rows L2
/-- such a class, by what the written part says -/
structure ExcC (K : PySem.W.Frag) (C : Addr) : Prop where
  cls : ∃ nm q N bs bm sn sub ab col dd k0 k1 k2 k3 k5,
    K.lookup C = some (excClassObj nm q C N bs bm true sn sub ab col dd k0 k1 k2 k3 k5 "Exception.__new__") ∧ PySem.GX.refsX bm = true
  sa : PySem.W.findIn K (.ref C) "__setattr__" = some (some (.builtin "object.__setattr__"))
  exC : PySem.W.subIn K (.ref C) (.type "BaseException") = some true
  tyC : PySem.W.typeIn K (.ref C) = some (.type "type")
  kC : PySem.W.keepIn K (.ref C) = true
theorem ExcC.data {K : PySem.W.Frag} {C : Addr} (T : ExcC K C) : ∃ cd, PySem.W.clsIn K C = some cd ∧ PySem.GX.refsX cd.mro = true ∧ cd.hasDict = true := by
  obtain ⟨nm, q, N, bs, bm, sn, sub, ab, col, dd, k0, k1, k2, k3, k5, hC, hbm⟩ := T.cls
  refine ⟨{ name := nm, bases := bs, mro := .ref C :: bm, ns := N, qualname := q, hasDict := true, slotNames := sn, subclasses := sub, abstract := ab, collection := col, hasDel := false }, ?_, hbm, rfl⟩
  unfold PySem.W.clsIn
  rw [hC]
section
variable {X : Cx} {pins : List (Addr × Obj)} {σ : L2.St} {H : Hp} {s : Shared} {a C dx : Addr} {f : Str} {y : V} {u : Value} {fs : List (Str × V)} {Q : Unit → Shared → Prop} {E : Value → Shared → Prop} {A : Around}
theorem keep_new (T : ExcC X.K C) (I : Inv X pins σ H s) (e : H a = some (exo a C none)) (hno : PySem.W.findIn X.K (.ref C) f = some none) (ry : RelV y u)
    (h : ∀ dx s', H dx = none → dx ≠ a → Inv X pins σ (upd (upd H dx (exd dx [(f, y)])) a (exo a C (some dx))) s' → Q () s') : wpAny (model X.prog X.w) A (setAttr (.ref a) f u) Q E s := by
  obtain ⟨cd, hcl, hbm, hdd⟩ := T.data
  obtain ⟨t1, ho⟩ := exo_at I.hok e
  obtain ⟨hp, g, d, t, os⟩ := s
  refine PySem.W.set_plain I.kIn (ox := _) (od := none) ⟨ho, rfl, rfl, trivial⟩ T.sa ?_
  refine PySem.GX.first_field I.kIn ho hcl hbm hdd hno ?_
  intro h' tk' dx k dn dne hx hn
  have hnd : H dx = none := I.hok.fresh dn
  have na : ∀ {b : Addr}, H b = none → b ≠ a := fun {b} n z => by rw [z, e] at n; cases n
  have nd : ∀ {b : Addr} {o : Obj}, hp.get? b = some o → b ≠ dx := fun {b o} q => Nat.ne_of_lt (Nat.lt_of_lt_of_le (Heap.lt_size q) dn)
  have look : ∀ {b : Addr} {u : HO}, H b = some u → b ≠ a → upd (upd H dx (exd dx [(f, y)])) a (exo a C (some dx)) b = some u := fun {b u} q z => by
    rw [upd_ne z, upd_ne (ne_of_none q hnd)]; exact q
  have U : Un X.fs [] H (upd (upd H dx (exd dx [(f, y)])) a (exo a C (some dx))) hp h' := by
    refine ⟨fun b o q n _ _ => k b o (na n) q, fun b o q n _ _ => ⟨o.slots, k b o (na n) q⟩, fun b o q n _ => ?_, fun b o q _ => ?_, fun b xs q => look q (at_ne e q exo_tup), fun b o v q => look q (at_ne e q exo_frz), fun b ps q => ⟨#[], ?_⟩⟩
    · rw [upd_ne (na n), upd_ne (nd q)]; exact n
    · by_cases hb : b = a
      · exact ⟨_, by rw [hb]; exact hx⟩
      · exact ⟨o, k b o hb q⟩
    · rw [look q (at_ne e q exo_tbl)]; simp
  refine h dx _ hnd dne (I.un (t' := tk') U fun b o q => ?_)
  by_cases hb : b = a
  · subst hb
    rw [upd_same] at q
    cases q
    exact exo_ok hx
  · rw [upd_ne hb] at q
    by_cases hd : b = dx
    · subst hd
      rw [upd_same] at q
      cases q
      exact exd_ok hn (relO_put (fs := []) ry fun g => True.intro)
    · rw [upd_ne hd] at q
      refine (I.hok b o q).stay (fun c v hc z => k c v ?_ z) (fun c hc => look hc (at_ne e hc exo_own)) (fun c xs hc => look hc (at_ne e hc exo_tup))
      rcases hc with hc | hc
      · rw [hc]; exact hb
      · exact at_ne e hc exo_own
theorem keep_old (T : ExcC X.K C) (I : Inv X pins σ H s) (e : H a = some (exo a C (some dx))) (ed : H dx = some (exd dx fs)) (hl : fs.length ≤ 900) (hno : PySem.W.findIn X.K (.ref C) f = some none) (ry : RelV y u)
    (h : ∀ s', Inv X pins σ (upd H dx (exd dx ((f, y) :: fs))) s' → Q () s') : wpAny (model X.prog X.w) A (setAttr (.ref a) f u) Q E s := by
  obtain ⟨cd, hcl, hbm, hdd⟩ := T.data
  obtain ⟨t1, ho⟩ := exo_at I.hok e
  obtain ⟨mA, hns, rel⟩ := exd_at I.hok ed
  have hw := within_of rel
  obtain ⟨hp, g, d, t, os⟩ := s
  obtain ⟨oD, _, _, hoD, _, _⟩ := hns.count hw
  refine PySem.W.set_plain I.kIn (ox := _) (od := some oD) ⟨ho, rfl, rfl, hoD⟩ T.sa ?_
  refine PySem.GX.next_field I.kIn ho hns hw (by rw [List.length_map]; omega) hcl hbm hdd hno ?_
  intro h' tk' k hn
  have hd : ∃ o, h'.get? dx = some o := by obtain ⟨o, _, _, e', _⟩ := hn; exact ⟨o, e'⟩
  exact h _ (I.write (t' := tk') (x := dx) (e := dx) (o := exd dx ((f, y) :: fs)) (by rw [ed]; exact True.intro) (.inl rfl) k hd (exd_ok hn (relO_put ry rel)))
end
/-- self.f = e in such an __init__ -/
def tKeep (K : PySem.W.Frag) (f : Str) (to te : TE) : TS := fun D σ H => te σ H fun y H1 => to σ H1 fun x H2 => ∃ a C : Addr, x = .ref a ∧ ExcC K C ∧ PySem.W.findIn K (.ref C) f = some none ∧
  ((H2 a = some (exo a C none) ∧ ∀ dx, H2 dx = none → dx ≠ a → D.nx σ (upd (upd H2 dx (exd dx [(f, y)])) a (exo a C (some dx)))) ∨
    ∃ (dx : Addr) (fs : List (Str × V)), H2 a = some (exo a C (some dx)) ∧ H2 dx = some (exd dx fs) ∧ fs.length ≤ 900 ∧ D.nx σ (upd H2 dx (exd dx ((f, y) :: fs))))
section
variable {X : Cx} {o e : Expr} {es : List Expr} {to te : TE} {ta : TA} {f : Str} {p p' pos : Pos}
theorem ps_keep (ho : PE X o to) (he : PE X e te) (hs : swapsWith e (some (.Attribute o f p')) pos.line X.env = pure false := by rfl) : PS X (.Assign [.Attribute o f p'] e pos) (tKeep X.K f to te) := by
  constructor
  intro pins s σ H D I h
  refine plainObj_wpAny_Assign_Attribute (thn (he.run pins s σ H _ I h) ?_) hs
  rintro v s1 ⟨y, H1, I1, r1, q1⟩
  refine thn (ho.run pins s1 σ H1 _ I1 q1) ?_
  rintro u s2 ⟨x, H2, I2, r2, a, C, ex, T, hno, q⟩
  subst ex
  cases r2
  rcases q with ⟨ea, q⟩ | ⟨dx, fs, ea, ed, hl, q⟩
  · exact keep_new T I2 ea hno r1 fun dx s' n ne J => ⟨σ, _, J, q dx n ne⟩
  · exact keep_old T I2 ea ed hl hno r1 fun s' J => ⟨σ, _, J, q⟩
/-- C(e, ..) where C's __init__ keeps sp: an exception is made -/
theorem pmk_x {CX : CXT} {x : Str} {C fI : Addr} {k : Nat} {fd : FuncData} {ps : List Str} {sp : Sp} (T : ExcC X.K C) (iC : PySem.W.findIn X.K (.ref C) "__init__" = some (some (.ref fI))) (tI : PySem.W.typeIn X.K (.ref fI) = some (.type "function"))
    (F1 : FnOk X.prog X.w X.K X.mg X.base CX k fI fd ps sp) (hr : Room (k + 1) X.A) (hb : Binds X.K fd ps []) (hx : Passes CX X (fun _ _ _ => False)) (hg : Gl X x) (hm : X.mg x = some (.ref C)) (ha : PA X (e :: es) ta)
    (hdb : (x == ("__debug__" : Str)) = false := by decide)
    (he : starEach (e :: es) X.env = (false, eval e X.env) :: starEach es X.env := by rfl) (hpl : (backTo pos (starEach es X.env)).any (·.1) = false := by rfl) :
    PMk X (.Call (.Name x p) (e :: es) [] pos) (tMkO C sp [] ta) := by
  intro pins s σ H Q I h
  obtain ⟨nm, q, N, bs, bm, sn, sub, ab, col, dd, k0, k1, k2, k3, k5, hC, hbm⟩ := T.cls
  refine wpAny_Call_Name_kw (ld_glob I hg hm ?_ hdb)
  refine PySem.W.callWith_K (h₀ := X.base) I.ok.mod.kin T.kC (thn (ha.run pos pins s σ H _ I h) ?_) he hpl
  rintro us s1 ⟨vs, H1, I1, r1, hz, q1⟩
  refine ⟨I1.kIn, ?_⟩
  show wpAny _ _ (call (.ref C) us) _ _ _
  obtain ⟨hp, g, dr, tk, os⟩ := s1
  have hsz : hp.objs.size ≤ hp.objs.size + 1 := Nat.le_succ _
  have hq := q1 (hp.objs.size + 1) (I1.hok.fresh hsz)
  have kk : ∀ b o, hp.get? b = some o → ((hp.push (PySem.W.kdv_tup us)).push (PySem.HandSPX.excO C hp.objs.size)).get? b = some o := fun b o z =>
    Heap.get?_push_of_some _ (Heap.get?_push_of_some _ z)
  have hget : ((hp.push (PySem.W.kdv_tup us)).push (PySem.HandSPX.excO C hp.objs.size)).get? (hp.objs.size + 1) = some (PySem.HandSPX.excO C hp.objs.size) := by heap_get
  have I2 := I1.laid (t' := tk) (a := hp.objs.size + 1) (o := exo (hp.objs.size + 1) C none) (h' := (hp.push (PySem.W.kdv_tup us)).push (PySem.HandSPX.excO C hp.objs.size)) kk hsz (exo_ok hget)
  have r2 : Vals (V.ref (hp.objs.size + 1) :: (vs ++ [])) (Value.ref (hp.objs.size + 1) :: (us ++ [])) := .cons rfl (r1.append .nil)
  have hl : (Value.ref (hp.objs.size + 1) :: us ++ []).length = ps.length := by
    have z := r2.length
    rw [F1.len _ _ _ _ hq] at z
    exact z.symm
  have hus : us.length ≤ sizeLine := by
    rw [← Paired.length r1, sizeLine_eq]
    omega
  have bnd := hb _ (Value.ref (hp.objs.size + 1) :: us) I2.kIn hl
  rw [List.cons_append] at bnd
  have run := F1.run _ X.stack _ _ ⟨Value.ref (hp.objs.size + 1) :: us, []⟩ (Value.ref (hp.objs.size + 1) :: (us ++ [])) _ _ (fun _ _ _ => False) (hr.make C us []) (I2.env0.make C us []) bnd r2 hq
  refine wpAny_call (PySem.HandSPX.call_own F.excBase_Exception (fun Y => PySem.GX.refsX_has Y bm hbm) (I1.kIn _ _ hC) (PySem.W.looks_findIn I1.kIn iC) (fun self => PySem.W.bind_fn I1.kIn self tI) hus (codeAny_mono run ?_))
  intro r s' hq'
  cases r with
  | error er => exact hx pins σ _ _ er s' I2 hq'
  | ok fl =>
    cases fl with
    | ret u =>
      obtain ⟨v, H2, os2, bare2, un2, hok2, rv, ev, d, fs, ea, ed, hd1, q2⟩ := hq'
      subst ev
      obtain ⟨h2, g2, d2, t2, os'⟩ := s'
      exact ⟨rv, mk_end (raises_own T.exC T.tyC) I1 hsz kk un2 hok2 os2 bare2 ea ed hd1 q2⟩
    | _ => exact False.elim hq'
end
end G

set_option Elab.async false
set_option linter.all false
set_option maxRecDepth 100000
set_option maxHeartbeats 4000000
/-! G8: raising an exception that keeps its arguments; several clauses that name what they catch. -/
namespace G
open PySem PySem.Spec PyProof.Rows L2

/-! ### the rule for try -/
abbrev Sui := Addr → Value → Option Addr → TS
/-- the ways out of a suite whose clause holds slot i -/
def outN (i : Nat) (D : Ends) : Ends := { nx := fun τ G => D.nx (τ.set i none) G, rt := D.rt, bk := fun τ G => D.bk (τ.set i none) G, ct := fun τ G => D.ct (τ.set i none) G }
def wNamed (K : PySem.W.Frag) (Wo : WX) (D : Ends) : List (Value × Nat × Sui) → WX
  | [] => Wo
  | (c, i, ts) :: r => fun cls d σ H => ∃ b, PySem.W.exmOne K cls c = some b ∧ (b = true → ∀ a, H a = none → ts a cls d (outN i D) (σ.set i (some (.ref a))) H) ∧ (b = false → wNamed K Wo D r cls d σ H)
inductive HdsN (X : Cx) : List ExceptHandler → List (Value × Nat × Sui) → Prop
  | nil : HdsN X [] []
  | cons {x n : Str} {c : Value} {i : Nat} {ts : Sui} {st : Stmt} {sts : List Stmt} {np p2 : Pos} {hs : List ExceptHandler} {l : List (Value × Nat × Sui)} (hi : X.N[i]? = some n) (hn : X.env.kindOf n = some .local) (hc : Names X x c)
      (suite : ∀ (a : Addr) (o : Obj) (cls : Value) (d : Option Addr) (pn : List (Addr × Obj)), Zc cls d o → (∃ vs, o.data = .fields vs) → PSs (X.suite a ((a, o) :: pn)) (st :: sts) (ts a cls d))
      (rest : HdsN X hs l) : HdsN X (.ExceptHandler (some (.Name x np)) (some n) (st :: sts) p2 :: hs) ((c, i, ts) :: l)
section
variable {X : Cx} {l : List (Value × Nat × Sui)} {hs : List ExceptHandler} {Wo : WX} {pins : List (Addr × Obj)} {σ : L2.St} {H : Hp} {D : Ends} {B : Heap} {a : Addr} {cls : Value} {d : Option Addr} {sI s : Shared}
/-- what stands when the exception at a has landed, in the heap of s -/
structure Landed (X : Cx) (pins : List (Addr × Obj)) (σ : L2.St) (H : Hp) (B : Heap) (a : Addr) (cls : Value) (d : Option Addr) (sI s : Shared) : Prop where
  I : Inv X pins σ H sI
  nb : ∀ b o, sI.heap.get? b = some o → b ∉ frs X.stack → B.get? b = some o
  up : sI.heap.UpToSlots s.heap
  fl : HandSPX.FlyingZ B (X.env :: X.outer) a (Zc cls d) s.heap
  na : H a = none
  os : s.os = sI.os
  ag : AllBare s.gens
theorem Landed.on (L : Landed X pins σ H B a cls d sI s) {h' : Heap} (fl : HandSPX.FlyingZ B (X.env :: X.outer) a (Zc cls d) h') (up : s.heap.UpToSlots h') : Landed X pins σ H B a cls d sI { s with heap := h' } :=
  ⟨L.I, L.nb, L.up.trans up, fl, L.na, L.os, L.ag⟩
theorem Landed.inv (L : Landed X pins σ H B a cls d sI s) : Inv X pins σ H s := L.I.landed L.nb L.fl.1 L.up L.os L.ag
/-- the suite's own invariant, with what the exception is -/
theorem Landed.begin_ (L : Landed X pins σ H B a cls d sI s) (hf : X.env.frame = some X.env.locals) :
    ∃ (o : Obj), s.heap.get? a = some o ∧ Zc cls d o ∧ (∃ vs, o.data = .fields vs) ∧ Inv (X.suite a ((a, o) :: (X.pn ++ pins))) [] σ H s := by
  obtain ⟨o, vs, e, z, dt⟩ := L.fl.there
  have out : a ∉ frs (X.env :: X.outer) := fun q => by
    obtain ⟨_, o2, e2, no⟩ := L.fl.2.2.1.mem q
    rw [e] at e2
    cases e2
    exact no _ dt
  refine ⟨o, e, z, ⟨vs, dt⟩, L.inv.suite e dt L.na (fun q => out ?_) (fun q => out ?_)⟩
  · exact List.mem_filterMap.mpr ⟨X.env, List.mem_cons_self, by rw [hf, q]⟩
  · obtain ⟨e3, m3, q3⟩ := List.mem_filterMap.mp q
    exact List.mem_filterMap.mpr ⟨e3, List.mem_cons_of_mem _ m3, q3⟩
/-- the clauses, one after the other -/
theorem Landed.clauses (L : Landed X pins σ H B a cls d sI s) (hs : X.stack = X.env :: X.outer) (hf : X.env.frame = some X.env.locals) (hN : X.N.Nodup) (ok : X.Ok) (tk : Takes X Wo) :
    ∀ {hds : List ExceptHandler} {l : List (Value × Nat × Sui)}, HdsN X hds l → wNamed X.K Wo D l cls d σ H → wpAny (model X.prog X.w) X.A (handleBy (.ref a) X.env hds) (SP X pins D) X.xe s := by
  intro hds l hk
  have hz : ∀ o, Zc cls d o → o.cls = cls := fun o z => z.1
  obtain ⟨o0, e0, z0, dt0, S0⟩ := L.begin_ hf
  have look : ∀ {x : Str} {c : Value} {np : Pos}, Names X x c → ∀ {Q' : Value → Shared → Prop} {E' : Value → Shared → Prop}, Q' c s → wpAny (model X.prog X.w) (X.A.mark (some (.ref a))) (eval (.Name x np) X.env) Q' E' s := by
    intro x c np hc Q' E' q
    obtain ⟨hg, nd, hm | ⟨hm, hv, nn⟩⟩ := hc
    · exact ld_glob S0 hg hm q nd
    · exact ld_blt S0 hg hm hv q nn nd
  induction hk with
  | nil =>
    intro w
    exact PySem.PX.no_clauseZ hf L.fl fun h' held up => tk _ _ ⟨a, B, sI, pins, σ, H, cls, d, rfl, L.I, L.nb, L.up.trans up, .inr (.inr (by rw [hs]; exact held)), L.na, L.os, L.ag, w⟩
  | @cons x n c i ts st sts np p2 hs2 l2 hi hn hc suite rest ih =>
    rintro ⟨b, hb, yes, no⟩
    cases b with
    | false => exact PySem.PX.clause_passZ L.inv.kIn hz L.fl hb (look hc) (ih (no rfl))
    | true =>
      refine PySem.PX.clause_asZ L.inv.kIn hz L.fl hb (look hc) fun h4 fl4 up4 => ?_
      have L4 := L.on fl4 up4
      obtain ⟨o4, e4, z4, dt4, S4⟩ := L4.begin_ hf
      refine store_ok (X := X.suite a ((a, o4) :: (X.pn ++ pins))) (v := .ref a) S4 hN hi (.inl hn) rfl (fun s5 S5 => ?_) (.inr hn)
      refine wpAny_mono ((suite a o4 cls d _ z4 dt4).run [] s5 _ H _ S5 (yes rfl a L.na)) (fun f s6 r => ?_) (fun _ _ z => z.elim)
      cases f with
      | next => obtain ⟨τ, G, S6, q⟩ := r; exact gone_ok (S6.unsuite ok) hN hi hn fun s7 J => ⟨_, _, J, q⟩
      | brk => obtain ⟨τ, G, S6, q⟩ := r; exact gone_ok (S6.unsuite ok) hN hi hn fun s7 J => ⟨_, _, J, q⟩
      | cont => obtain ⟨τ, G, S6, q⟩ := r; exact gone_ok (S6.unsuite ok) hN hi hn fun s7 J => ⟨_, _, J, q⟩
      | ret u => obtain ⟨v, τ, G, S6, rv, q⟩ := r; exact gone_ok (S6.unsuite ok) hN hi hn fun s7 J => ⟨_, _, _, J, rv, q⟩
end
section
variable {X : Cx} {l : List (Value × Nat × Sui)} {h0 : ExceptHandler} {hs : List ExceptHandler} {body : List Stmt} {pos : Pos} {tb : WX → TS} {Wo : WX}
/-- try: body / except C as n: suite / except C2 as n2: suite2 .. -/
theorem ps_tryN (hs' : X.stack = X.env :: X.outer) (hf : X.env.frame = some X.env.locals) (hN : X.N.Nodup) (tk : Takes X Wo)
    (hb : ∀ (W : WX) (pn : List (Addr × Obj)) (xe : Value → Shared → Prop), Takes (X.tr pn xe) W → PassesOwn (model X.prog X.w) X.A X.env xe → PSs (X.tr pn xe) body (tb W))
    (hh : HdsN X (h0 :: hs) l) : PS X (.Try body (h0 :: hs) [] [] pos) (fun D σ H => tb (wNamed X.K Wo D l) D σ H) := by
  refine ⟨fun pins s σ H D I h => wpAny_Try_except ?_⟩
  have ok := I.ok
  have hfr : X.A.frames = some (X.env :: X.outer) := by rw [ok.frames, hs']
  let xe : Value → Shared → Prop := fun e s1 => wpAny (model X.prog X.w) X.A (noteFrame e X.env) (fun _ s2 => wpAny (model X.prog X.w) X.A (setFlight e none) (fun _ s3 => wpAny (model X.prog X.w) X.A (handleBy e X.env (h0 :: hs)) (SP X pins D) X.xe s3) X.xe s2) X.xe s1
  have takes : Takes (X.tr (X.pn ++ pins) xe) (wNamed X.K Wo D l) := by
    rintro u s' ⟨a, B, sI, pins', σ', H', cls, d, rfl, J, nb, up, sky, na, os, ag, w⟩
    have J' := J.ofTry ok
    refine Sky.land Zc.steady hfr hf (show Sky B (X.env :: X.outer) a (Zc cls d) X.env.locals s'.heap by rw [← hs']; exact sky) fun h3 fl3 up3 => ?_
    exact Landed.clauses (s := { s' with heap := h3 }) ⟨J', nb, up.trans up3, fl3, na, os, ag⟩ hs' hf hN ok tk hh w
  refine wpAny_mono ((hb _ (X.pn ++ pins) xe takes PassesOwn.looking).run [] s σ H D (I.toTry _) h) (fun f s1 r => ?_) (fun e s1 z => z)
  cases f with
  | next => obtain ⟨τ, G, J, q⟩ := r; exact wpAny_execs_nil ⟨τ, G, J.ofTry ok, q⟩
  | brk => obtain ⟨τ, G, J, q⟩ := r; exact ⟨τ, G, J.ofTry ok, q⟩
  | cont => obtain ⟨τ, G, J, q⟩ := r; exact ⟨τ, G, J.ofTry ok, q⟩
  | ret u => obtain ⟨v, τ, G, J, rv, q⟩ := r; exact ⟨v, τ, G, J.ofTry ok, rv, q⟩
end
end G

set_option Elab.async false
set_option linter.all false
set_option maxRecDepth 100000
set_option maxHeartbeats 4000000
/-! G9: what raising and catching does to plain data. -/
namespace G
open PySem PySem.Spec PyProof.Rows L2

/-! ### an __init__ of an exception that keeps its arguments -/
/-- field f gets argument j -/
def kept {α : Type} : List (Str × Nat) → List α → List (Str × α) → Option (List (Str × α))
  | [], _, acc => some acc
  | (f, j) :: r, vs, acc => match vs[j]? with
    | some v => kept r vs ((f, v) :: acc)
    | none => none
def tKeeps (K : PySem.W.Frag) : List (Str × Nat) → TS
  | [] => tNext
  | (f, j) :: r => tSeq (tKeep K f (tVar 0) (tVar (j + 1))) (tKeeps K r)
def spX (C : Addr) (np : Nat) (fl : List (Str × Nat)) : Sp := fun vs H Q _ => ∃ (a : Addr) (ws : List V) (fs : List (Str × V)), vs = .ref a :: ws ∧ ws.length = np ∧ H a = some (exo a C none) ∧ kept fl ws [] = some fs ∧
  ∀ d, H d = none → d ≠ a → Q .non (upd (upd H d (exd d fs)) a (exo a C (some d)))
/-- what the class and its fields must be -/
structure KeepsOk (K : PySem.W.Frag) (C : Addr) (fl : List (Str × Nat)) : Prop where
  cls : ExcC K C
  no : ∀ p ∈ fl, PySem.W.findIn K (.ref C) p.1 = some none
  some_ : fl ≠ []
  few : fl.length ≤ 900
section
variable {K : PySem.W.Frag} {w : WX} {H0 H A B : Hp} {m n : Mp} {S : Hs} {D : Ends} {ρ : Env} {σ : L2.St}
theorem keeps_more {C a d : Addr} {ws : List V} (T : ExcC K C) (na : d ≠ a) (h0 : σ[0]? = some (some (.ref a))) (hv : ∀ (j : Nat) (v : V), ws[j]? = some v → σ[j + 1]? = some (some v)) :
    ∀ (fl : List (Str × Nat)) (acc fs : List (Str × V)), (∀ p ∈ fl, PySem.W.findIn K (.ref C) p.1 = some none) → acc.length + fl.length ≤ 901 → kept fl ws acc = some fs → D.nx σ (upd (upd H d (exd d fs)) a (exo a C (some d))) →
      tKeeps K fl D σ (upd (upd H d (exd d acc)) a (exo a C (some d)))
  | [], acc, fs, _, _, e, q => by cases e; exact q
  | (f, j) :: r, acc, fs, no, few, e, q => by
    unfold kept at e
    cases ev : ws[j]? with
    | none => rw [ev] at e; cases e
    | some v =>
      rw [ev] at e
      refine ⟨v, hv j v ev, .ref a, h0, a, C, rfl, T, no _ List.mem_cons_self, .inr ⟨d, acc, upd_same, ?_, ?_, ?_⟩⟩
      · rw [upd_ne na]; exact upd_same
      · have : acc.length + (r.length + 1) ≤ 901 := few
        omega
      · have e2 : upd (upd (upd H d (exd d acc)) a (exo a C (some d))) d (exd d ((f, v) :: acc)) = upd (upd H d (exd d ((f, v) :: acc))) a (exo a C (some d)) := by
          funext b
          by_cases q1 : b = d
          · rw [q1, upd_same, upd_ne na, upd_same]
          · rw [upd_ne q1]
            by_cases q2 : b = a
            · rw [q2, upd_same, upd_same]
            · rw [upd_ne q2, upd_ne q2, upd_ne q1, upd_ne q1]
        rw [e2]
        exact keeps_more T na h0 hv r _ fs (fun p hp => no p (List.mem_cons_of_mem _ hp)) (by have : acc.length + (r.length + 1) ≤ 901 := few; simp; omega) e q
theorem keeps_all {C a : Addr} {ws : List V} {fl : List (Str × Nat)} {fs : List (Str × V)} (T : KeepsOk K C fl) (ha : H a = some (exo a C none)) (h0 : σ[0]? = some (some (.ref a))) (hv : ∀ (j : Nat) (v : V), ws[j]? = some v → σ[j + 1]? = some (some v))
    (e : kept fl ws [] = some fs) (q : ∀ d, H d = none → d ≠ a → D.nx σ (upd (upd H d (exd d fs)) a (exo a C (some d)))) : tKeeps K fl D σ H := by
  cases fl with
  | nil => exact absurd rfl T.some_
  | cons p r =>
    obtain ⟨f, j⟩ := p
    unfold kept at e
    cases ev : ws[j]? with
    | none => rw [ev] at e; cases e
    | some v =>
      rw [ev] at e
      refine ⟨v, hv j v ev, .ref a, h0, a, C, rfl, T.cls, T.no _ List.mem_cons_self, .inl ⟨ha, fun d hd na => ?_⟩⟩
      exact keeps_more T.cls na h0 hv r _ fs (fun p hp => T.no p (List.mem_cons_of_mem _ hp)) (by have := T.few; simp at this ⊢; omega) e (q d hd na)
/-- the promise of such an __init__ -/
theorem keeps_ok {P : Program} {wd : World} {mg : Str → Option Value} {base : Heap} {CX : CXT} {x qual : Str} {params : Arguments} {body : List Stmt} {scope : Scope} {dvs : List V} {kws : List (Str × V)} {f C : Addr} {fd : FuncData} {N ps : List Str} {k np : Nat} {fl : List (Str × Nat)}
    (F : FunD K x qual params body scope dvs kws f fd) (Sc : FnScope N ps scope) (T : KeepsOk K C fl) (hp : ps.length = np + 1)
    (hb : ∀ (cdv : Value) (A : Around) (outer : List PySem.Env) (s : Shared) (H : Hp) (E : XK), Room k (A.deeper (PyProof.Rows.envOfC qual scope s.heap.objs.size f cdv)) → PSs (cxOf CX P wd K mg base N qual scope f cdv A outer s H E) body (tKeeps K fl)) :
    FnOk P wd K mg base CX (k + 1) f fd ps (spX C np fl) := by
  refine F.ok Sc (fun vs H Q E h => ?_) fun cdv A outer s H vs Q E hr h => ⟨_, hb cdv A outer s H E hr, ?_⟩
  · obtain ⟨a, ws, fs, rfl, l, _⟩ := h
    rw [List.length_cons, l, hp]
  · obtain ⟨a, ws, fs, rfl, l, ha, e, q⟩ := h
    refine keeps_all (ws := ws) T ha rfl (fun j v ev => ?_) e fun d hd na => q d hd na
    have lj : j < ws.length := by
      rcases Nat.lt_or_ge j ws.length with z | z
      · exact z
      · rw [List.getElem?_eq_none z] at ev; cases ev
    show ((.ref a :: ws).map some ++ List.replicate _ none)[j + 1]? = _
    rw [List.getElem?_append_left (by simpa using lj), List.getElem?_map]
    show (ws[j]?).map some = _
    rw [ev]
    rfl
theorem kept_rel : ∀ (fl : List (Str × Nat)) {ds : List G.D} {vs : List V} {acc fs : List (Str × G.D)} {acv : List (Str × V)}, RDs K H ds vs → RDf K H acc acv → kept fl ds acc = some fs → ∃ gs, kept fl vs acv = some gs ∧ RDf K H fs gs
  | [], ds, vs, acc, fs, acv, _, ra, e => by cases e; exact ⟨acv, rfl, ra⟩
  | (f, j) :: r, ds, vs, acc, fs, acv, rd, ra, e => by
    unfold kept at e
    cases ev : ds[j]? with
    | none => rw [ev] at e; cases e
    | some d =>
      rw [ev] at e
      obtain ⟨v, hv, rv⟩ := rd.get ev
      obtain ⟨gs, e2, r2⟩ := kept_rel r rd (.cons rv ra) e
      refine ⟨gs, ?_, r2⟩
      unfold kept
      rw [hv]
      exact e2

/-! ### raise C(e, ..) -/
def esRaise (c : Str) (np : Nat) (fl : List (Str × Nat)) (a : Ea) : Es := fun ρ S => (a ρ S).thenS ρ fun ws S1 => match vals? ws with
  | some ds => (match kept fl ds [] with
    | some fs => if ws.length = np ∧ np ≤ 900 then .exc c fs ρ S1 else .no
    | none => .no)
  | none => .no
theorem ss_raise {ta : TA} {a : Ea} {c : Str} {np : Nat} {fl : List (Str × Nat)} (ha : SA K (up w) ta a) : SS K w (fun _ σ H => tMkO (ca K c) (spX (ca K c) np fl) [] ta σ H fun cls d H' => w cls d σ H') (esRaise c np fl a) := fun ρ S σ H0 H m D rl re h =>
  ha ρ S σ H0 H m _ trivial rl re (PostS.expr re h fun ws S1 A B n vs _ xt rl1 r1 h1 => by
    cases e1 : vals? ws with
    | none => rw [e1] at h1; exact h1.elim
    | some ds =>
      rw [e1] at h1
      dsimp only at h1
      cases e2 : kept fl ds [] with
      | none => rw [e2] at h1; exact h1.elim
      | some fs =>
        rw [e2] at h1
        dsimp only at h1
        by_cases l : ws.length = np ∧ np ≤ 900
        · rw [if_pos l] at h1
          have lv : vs.length = np := by rw [← r1.len]; exact l.1
          obtain ⟨gs, e3, r3⟩ := kept_rel fl (vals?_rel e1 r1) .nil e2
          refine ⟨by omega, fun x hx => ⟨x, vs, gs, by rw [List.append_nil], lv, upd_same, e3, fun d hd na => ⟨rfl, d, gs, upd_same, by rw [upd_ne na]; exact upd_same, ?_, ?_⟩⟩⟩
          · rw [upd_ne na] at hd; exact hd
          · have hd' : B d = none := by rw [upd_ne na] at hd; exact hd
            obtain ⟨x2, r2⟩ := rl1.new (o := .xd gs) hd'
            have e4 : upd (del (upd (upd (upd B x (exo x (ca K c) none)) d (exd d gs)) x (exo x (ca K c) (some d))) x) d (.xd gs) = upd B d (.xd gs) := by
              funext b
              by_cases q1 : b = d
              · rw [q1, upd_same, upd_same]
              · rw [upd_ne q1, upd_ne q1]
                by_cases q2 : b = x
                · rw [q2, del_same, hx]
                · rw [del_ne q2, upd_ne q2, upd_ne q1, upd_ne q2]
            rw [e4]
            exact h1 _ _ _ σ d gs x2 r2 ((re.on xt).on x2) upd_same (RDf.mono x2.h0 r3)
        · rw [if_neg l] at h1; exact h1.elim)

/-! ### try -/
structure Hdl where
  tbl : List (Str × Bool)
  slot : Nat
  run : Str → List (Str × G.D) → Es
/-- the clause's name goes; nothing is raised in a suite -/
def RS.clr (i : Nat) : RS → RS
  | .nx ρ S => .nx (ρ.set i none) S
  | .ct ρ S => .ct (ρ.set i none) S
  | .bk ρ S => .bk (ρ.set i none) S
  | .rt x S => .rt x S
  | _ => .no
def esHs (c : Str) (fs : List (Str × G.D)) : List Hdl → Es
  | [] => fun ρ S => .exc c fs ρ S
  | h :: r => fun ρ S => match h.tbl.lookup c with
    | some true => if h.slot < ρ.length then (h.run c fs (ρ.set h.slot none) S).clr h.slot else .no
    | some false => esHs c fs r ρ S
    | none => .no
def esTry (b : Es) (hs : List Hdl) : Es := fun ρ S => match b ρ S with
  | .exc c fs ρ1 S1 => esHs c fs hs ρ1 S1
  | r => r
def noX : WX := fun _ _ _ _ => False
/-- what a suite does with what it caught: one of the classes cs -/
def SH (K : PySem.W.Frag) (i : Nat) (cs : List Str) (ts : Sui) (f : Str → List (Str × G.D) → Es) : Prop := ∀ (c : Str) (fs : List (Str × G.D)) (gs : List (Str × V)) (a d : Addr) (ρ : Env) (S : Hs) (σ : L2.St) (H0 H : Hp) (m : Mp) (D : Ends), c ∈ cs → H a = none →
  H0 d = some (.xd gs) → RDf K H0 fs gs → σ[i]? = some (some (.ref a)) → Rl K H0 H m S → REnv K H0 m ρ σ → PostS K noX H0 H m D (f c fs ρ S) → ts a (.ref (ca K c)) (some d) D σ H
inductive HdRel (K : PySem.W.Frag) : List (Value × Nat × Sui) → List Hdl → Prop
  | nil : HdRel K [] []
  | cons {c : Value} {ts : Sui} {h : Hdl} {cs : List Str} {l : List (Value × Nat × Sui)} {hs : List Hdl} (tb : ∀ x b, h.tbl.lookup x = some b → PySem.W.exmOne K (.ref (ca K x)) c = some b) (tc : ∀ x, h.tbl.lookup x = some true → x ∈ cs)
      (su : SH K h.slot cs ts h.run) (r : HdRel K l hs) : HdRel K ((c, h.slot, ts) :: l) (h :: hs)
theorem REnv.hide (r : REnv K H0 m ρ σ) (i : Nat) (v : Option V) : REnv K H0 m (ρ.set i none) (σ.set i v) := by
  refine ⟨by simp [r.len], fun j u e => ?_⟩
  by_cases q : i = j
  · subst q
    by_cases l : i < ρ.length
    · rw [List.getElem?_set_self l] at e; cases e
    · rw [List.getElem?_eq_none (by simpa using l)] at e; cases e
  · rw [List.getElem?_set_ne q] at e ⊢
    exact r.at_ j u e
theorem PostS.clr {i : Nat} {r : RS} (h : PostS K w H0 H m D (r.clr i)) : PostS K noX H0 H m (outN i D) r := by
  cases r with
  | nx ρ S => exact fun A B n s x y z => h A B n _ x y (z.clear i)
  | ct ρ S => exact fun A B n s x y z => h A B n _ x y (z.clear i)
  | bk ρ S => exact fun A B n s x y z => h A B n _ x y (z.clear i)
  | rt x S => exact h
  | exc c fs ρ S => exact h.elim
  | no => exact h
theorem hs_ok {l : List (Value × Nat × Sui)} {hs : List Hdl} {c : Str} {fs : List (Str × G.D)} {gs : List (Str × V)} {d : Addr} (k : HdRel K l hs) (rl : Rl K H0 H m S) (re : REnv K H0 m ρ σ) (ed : H0 d = some (.xd gs)) (rf : RDf K H0 fs gs)
    (h : PostS K w H0 H m D (esHs c fs hs ρ S)) : wNamed K w D l (.ref (ca K c)) (some d) σ H := by
  induction k with
  | nil => exact h _ _ _ σ d gs Xt.refl rl re ed rf
  | @cons C ts h' cs l hs tb tc su r ih =>
    have h2 : PostS K w H0 H m D (match h'.tbl.lookup c with
      | some true => if h'.slot < ρ.length then (h'.run c fs (ρ.set h'.slot none) S).clr h'.slot else .no
      | some false => esHs c fs hs ρ S
      | none => .no) := h
    cases e : h'.tbl.lookup c with
    | none => rw [e] at h2; exact h2.elim
    | some b =>
      rw [e] at h2
      refine ⟨b, tb c b e, fun eb a na => ?_, fun eb => ?_⟩
      · subst eb
        dsimp only at h2
        by_cases q : h'.slot < ρ.length
        · rw [if_pos q] at h2
          exact su c fs gs a d _ S _ H0 H m _ (tc c e) na ed rf (List.getElem?_set_self (by rw [← re.len]; exact q)) rl (re.hide _ _) h2.clr
        · rw [if_neg q] at h2; exact h2.elim
      · subst eb
        exact ih h2
theorem ss_try {tb : WX → TS} {b : Es} {l : List (Value × Nat × Sui)} {hs : List Hdl} (hb : ∀ w, SS K w (tb w) b) (k : HdRel K l hs) : SS K w (fun D σ H => tb (wNamed K w D l) D σ H) (esTry b hs) := fun ρ S σ H0 H m D rl re h => by
  refine hb _ ρ S σ H0 H m D rl re ?_
  have h2 : PostS K w H0 H m D (match b ρ S with
    | .exc c fs ρ1 S1 => esHs c fs hs ρ1 S1
    | r => r) := h
  cases e : b ρ S with
  | nx ρ S => rw [e] at h2; exact h2
  | ct ρ S => rw [e] at h2; exact h2
  | bk ρ S => rw [e] at h2; exact h2
  | rt q S => rw [e] at h2; exact h2
  | no => rw [e] at h2; exact h2
  | exc c fs ρ1 S1 =>
    rw [e] at h2
    exact fun A B n s d gs x y z ed rf => hs_ok k y z ed rf (PostS.shift x h2)

/-! ### in a suite -/
/-- slot i holds a, whose fields are fs -/
def inS (K : PySem.W.Frag) (i : Nat) (a d : Addr) (fs : List (Str × G.D)) : Wc := ⟨noX, fun σ H0 => σ[i]? = some (some (.ref a)) ∧ ∃ gs, H0 d = some (.xd gs) ∧ RDf K H0 fs gs, fun σ H0 A e h => by
  obtain ⟨h1, gs, h2, h3⟩ := h
  exact ⟨h1, gs, e _ _ h2, h3.mono e⟩⟩
def tXfs (Cs : List Addr) (f : Str) (i : Nat) (a : Addr) (cls : Value) (d : Option Addr) : TE := fun σ H Q => ∃ C ∈ Cs, tXf a cls d C f (tVar i) σ H Q
def evXf (fs : List (Str × G.D)) (f : Str) : Ev := fun _ S => match fs.lookup f with
  | some x => .ok (.val x) S
  | none => .no
theorem se_xf {i : Nat} {a d : Addr} {fs : List (Str × G.D)} {f c : Str} {cs : List Str} (hc : c ∈ cs) : SE K (inS K i a d fs) (tXfs (cs.map (ca K)) f i a (.ref (ca K c)) (some d)) (evXf fs f) := fun ρ S σ H0 H m Q φ rl re h => by
  obtain ⟨h1, gs, h2, h3⟩ := φ
  unfold evXf at h
  cases e : fs.lookup f with
  | none => rw [e] at h; exact h.elim
  | some x =>
    rw [e] at h
    obtain ⟨v, ev, rv⟩ := h3.look e
    exact ⟨_, List.mem_map_of_mem hc, .ref a, h1, rfl, rfl, d, gs, v, rfl, rl.sub _ _ h2, ev, h.now rl rv⟩
theorem sh_asg {i j : Nat} {cs : List Str} {te : Addr → Value → Option Addr → TE} {g : Str → List (Str × G.D) → Ev} (h : ∀ a d c fs, c ∈ cs → SE K (inS K i a d fs) (te a (.ref (ca K c)) (some d)) (g c fs)) : SH K i cs (fun a cls d => tAsg (te a cls d) (gName j)) (fun c fs => esAsg (g c fs) (egName j)) :=
  fun c fs gs a d ρ S σ H0 H m D hc na ed rf hi rl re k => h a d c fs hc ρ S σ H0 H m _ ⟨hi, gs, ed, rf⟩ rl re (PostS.expr re k fun x S1 A B n v _ xt rl1 r1 h1 => sg_name j x v ρ S1 σ A B n D rl1 (re.on xt) r1 h1)
theorem sh_ret {i : Nat} {cs : List Str} {te : Addr → Value → Option Addr → TE} {g : Str → List (Str × G.D) → Ev} (h : ∀ a d c fs, c ∈ cs → SE K (inS K i a d fs) (te a (.ref (ca K c)) (some d)) (g c fs)) : SH K i cs (fun a cls d => tRet (te a cls d)) (fun c fs => esRet (g c fs)) :=
  fun c fs gs a d ρ S σ H0 H m D hc na ed rf hi rl re k => h a d c fs hc ρ S σ H0 H m _ ⟨hi, gs, ed, rf⟩ rl re (PostS.expr re k fun x S1 A B n v _ xt rl1 r1 h1 => h1 _ _ _ _ Xt.refl rl1 r1)
theorem sh_seq {i : Nat} {cs : List Str} {ts : Sui} {u : TS} {f : Str → List (Str × G.D) → Es} {b : Es} (h : SH K i cs ts f) (hb : SS K noX u b) : SH K i cs (fun a cls d => tSeq (ts a cls d) u) (fun c fs => esSeq (f c fs) b) :=
  fun c fs gs a d ρ S σ H0 H m D hc na ed rf hi rl re k => h c fs gs a d ρ S σ H0 H m _ hc na ed rf hi rl re (PostS.seq (b := b) k fun ρ1 S1 A B n s y z q k2 => hb ρ1 S1 s A B n D z q k2)
theorem sh_any {i : Nat} {cs : List Str} {u : TS} {b : Es} (hb : SS K noX u b) : SH K i cs (fun _ _ _ => u) (fun _ _ => b) := fun c fs gs a d ρ S σ H0 H m D hc na ed rf hi rl re k => hb ρ S σ H0 H m D rl re k
end
section
variable {X : Cx} {a : Addr} {o : Obj} {cls : Value} {d : Option Addr} {pn : List (Addr × Obj)} {i : Nat} {x f : Str} {p p2 : Pos} {Cs : List Addr}
/-- n.f, n what was caught -/
theorem pe_xfs (T : ∀ C ∈ Cs, XfC X.K C ∧ PySem.W.findIn X.K (.ref C) f = some none) (hz : Zc cls d o) (hf : ∃ vs, o.data = .fields vs) (hv : PE (X.suite a ((a, o) :: pn)) (.Name x p2) (tVar i))
    (hb : attributeBase (.Name x p2) f X.env (eval (.Name x p2) X.env) = eval (.Name x p2) X.env := by rfl) : PE (X.suite a ((a, o) :: pn)) (.Attribute (.Name x p2) f p) (tXfs Cs f i a cls d) :=
  ⟨fun pins s σ H Q I h => by
    obtain ⟨C, hC, q⟩ := h
    exact (pe_xf (T C hC).1 (T C hC).2 hz hf hv hb).run pins s σ H Q I q⟩
end
end G

set_option Elab.async false
set_option linter.all false
set_option maxRecDepth 100000
set_option maxHeartbeats 4000000
/-! G10: isinstance. -/
namespace G
open PySem PySem.Spec PyProof.Rows L2

/-- a datum's type -/
inductive Tg where
  | b (n : String) | o (c : Str)
def tagD : G.D → Option Tg
  | .non => some (.b "NoneType")
  | .bl _ => some (.b "bool")
  | .int _ => some (.b "int")
  | .str _ => some (.b "str")
  | .tup _ => some (.b "tuple")
  | .lst _ => some (.b "list")
  | .sq _ => some (.b "list")
  | .obj c _ => some (.o c)
  | .cls _ => none
def tagW : W → Hs → Option Tg
  | .val d, _ => tagD d
  | .ref i, S => match S[i]? with
    | some (some (.lst _)) => some (.b "list")
    | some (some (.ob c _)) => some (.o c)
    | _ => none
/-- what is asked: the answers by type -/
structure Isq where
  b : List (String × Bool)
  o : List (Str × Bool)
def Isq.ans (T : Isq) : Tg → Option Bool
  | .b n => T.b.lookup n
  | .o c => T.o.lookup c
def evIs (T : Isq) (a : Ev) : Ev := evUn (fun x S => match tagW x S with
  | some t => (match T.ans t with
    | some b => .ok (.val (.bl b)) S
    | none => .no)
  | none => .no) a
def tgV (K : PySem.W.Frag) : Tg → Value
  | .b n => .type n
  | .o c => .ref (ca K c)
/-- what isinstance asks of instances of the class at C -/
structure InsOk (K : PySem.W.Frag) (C : Addr) : Prop where
  cl : Cls K C
  ha : PySem.W.findIn K (.ref C) "__class__" = some (some (.builtin "object.__class__"))
  hn : PySem.W.specialIn K (.builtin "object.__class__") "__get__" = some (some (.builtin "getset_descriptor.__get__"))
  ht : PySem.W.takesIn K (.builtin "object.__class__") = some true
  hm : PySem.W.mroIn K C (.type "object") = some true
def OwnT (K : PySem.W.Frag) : Tg → Prop
  | .b _ => True
  | .o c => InsOk K (ca K c)
section
variable {K : PySem.W.Frag} {w : WX} {H0 H A B : Hp} {m n : Mp} {S : Hs} {ρ : Env} {σ : L2.St}
theorem ty_t {a : Addr} {vs : List V} (h : SqT K H a vs) : TyX K H (.ref a) (.type "tuple") := by
  rcases h with (e | ⟨o, e⟩) | ⟨o, its, n, e, c, _⟩
  · exact .base (.tup e)
  · exact .fTuple e
  · exact .kTuple e c
theorem ty_l {a : Addr} {vs : List V} (h : SqL K H a vs) : TyX K H (.ref a) (.type "list") := by
  rcases h with (e | ⟨o, e⟩) | ⟨o, its, n, e, c, _⟩
  · exact .base (.lst e)
  · exact .base (.frz e)
  · exact .kList e c
theorem tag_d {d : G.D} {v : V} {t : Tg} (rl : Rl K H0 H m S) (r : RD K H0 d v) (e : tagD d = some t) (ow : OwnT K t) : TyX K H v (tgV K t) := by
  cases r with
  | non => cases e; exact .base .non
  | bl b => cases e; exact .base (.bl b)
  | int i => cases e; exact .base (.int i)
  | str s => cases e; exact .base (.str s)
  | tup h r => cases e; exact ty_t (Evl.ex_t rl.sub h)
  | lst h r => cases e; exact .base (.lst (rl.sub _ _ h))
  | sq h r => cases e; exact ty_l (Evl.ex_l rl.sub h)
  | obj h r => cases e; exact .base (.ins (rl.sub _ _ h) ow.cl ow.ha ow.hn ow.ht ow.hm)
  | cls c => cases e
theorem tag_ok {x : W} {v : V} {t : Tg} (rl : Rl K H0 H m S) (r : RW K H0 m x v) (e : tagW x S = some t) (ow : OwnT K t) : TyX K H v (tgV K t) := by
  cases x with
  | val d => exact tag_d rl r e ow
  | ref i =>
    obtain ⟨a, ea, rfl⟩ := r
    have e1 : (match S[i]? with
      | some (some (.lst _)) => some (.b "list")
      | some (some (.ob c _)) => some (.o c)
      | _ => (none : Option Tg)) = some t := e
    cases q : S[i]? with
    | none => rw [q] at e1; cases e1
    | some o =>
      rw [q] at e1
      cases o with
      | none => cases e1
      | some c =>
        obtain ⟨b, eb, h0, z⟩ := rl.own i _ q
        rw [ea] at eb
        cases eb
        cases c with
        | lst ws =>
          cases e1
          obtain ⟨vs, hv, _⟩ := z
          exact .base (.lst hv)
        | ob c fs =>
          cases e1
          obtain ⟨dx, gs, hb, rb, _⟩ := z
          exact .base (.ins hb ow.cl ow.ha ow.hn ow.ht ow.hm)
/-- the answers are right, for one class -/
def IsOk (K : PySem.W.Frag) (cv : V) (T : Isq) : Prop := ∃ u, ClsV cv u ∧ ∀ t b, T.ans t = some b → PySem.W.kitOne K (tgV K t) u = some b ∧ OwnT K t
/-- .. and for a tuple of classes -/
def IsOkT (K : PySem.W.Frag) (cvs : List V) (T : Isq) : Prop := ∃ us, Paired ClsV cvs us ∧ ∀ t b, T.ans t = some b → PySem.W.kitAny K (tgV K t) us = some b ∧ OwnT K t
theorem se_is {cw : Wc} {T : Isq} {cv : V} {ta : TE} {a : Ev} (k : IsOk K cv T) (ha : SE K cw ta a) : SE K cw (tCB (rIsi K) (tCons ta (tCons (tC cv) tNil))) (evIs T a) := fun ρ S σ H0 H m Q φ rl re h =>
  ha ρ S σ H0 H m _ φ rl re (h.bind fun x S1 A B n v _ xt rl1 r1 h1 => by
    dsimp only at h1
    cases e : tagW x S1 with
    | none => rw [e] at h1; exact h1.elim
    | some t =>
      rw [e] at h1
      dsimp only at h1
      cases e2 : T.ans t with
      | none => rw [e2] at h1; exact h1.elim
      | some b =>
        rw [e2] at h1
        obtain ⟨u, cl, k2⟩ := k
        obtain ⟨k3, ow⟩ := k2 t b e2
        exact ⟨v, cv, _, u, b, rfl, cl, tag_ok rl1 r1 e ow, k3, h1.now rl1 (RD.bl b)⟩)
theorem se_isT {cw : Wc} {T : Isq} {cvs : List V} {ts : TA} {ta : TE} {a : Ev} (k : IsOkT K cvs T) (few : cvs.length ≤ sizeLine) (hts : ∀ (σ : L2.St) (H : Hp) (Q : List V → Hp → Prop), Q cvs H → ts σ H Q) (ha : SE K cw ta a) :
    SE K cw (tCB (rIsiT K) (tCons ta (tCons (tTup ts) tNil))) (evIs T a) := fun ρ S σ H0 H m Q φ rl re h =>
  ha ρ S σ H0 H m _ φ rl re (h.bind fun x S1 A B n v _ xt rl1 r1 h1 => by
    dsimp only at h1
    cases e : tagW x S1 with
    | none => rw [e] at h1; exact h1.elim
    | some t =>
      rw [e] at h1
      dsimp only at h1
      cases e2 : T.ans t with
      | none => rw [e2] at h1; exact h1.elim
      | some b =>
        rw [e2] at h1
        obtain ⟨us, cl, k2⟩ := k
        obtain ⟨k3, ow⟩ := k2 t b e2
        refine hts σ B _ ⟨few, fun p hp => ?_⟩
        obtain ⟨x2, r2⟩ := rl1.new (o := .tup cvs) hp
        have r1' : RW K (upd A p (.tup cvs)) n x v := r1.mono x2.h0 x2.mm
        exact ⟨v, p, cvs, _, us, b, rfl, upd_same, cl, tag_ok r2 r1' e ow, k3, h1 _ _ _ _ x2 r2 (RD.bl b)⟩)
end

/-! ### of what a suite caught -/
/-- what isinstance asks of an exception class of one's own -/
structure XisC (K : PySem.W.Frag) (C : Addr) : Prop where
  hc : (PySem.W.clsIn K C).isSome = true
  ga : PySem.W.findIn K (.ref C) "__getattribute__" = some (some (.builtin "BaseException.__getattribute__"))
  gt : PySem.W.findIn K (.ref C) "__getattr__" = some none
  sub : PySem.W.subIn K (.ref C) (.type "BaseException") = some true
  ha : PySem.W.findIn K (.ref C) "__class__" = some (some (.builtin "object.__class__"))
  hn : PySem.W.specialIn K (.builtin "object.__class__") "__get__" = some (some (.builtin "getset_descriptor.__get__"))
  ht : PySem.W.takesIn K (.builtin "object.__class__") = some true
  hm : PySem.W.mroIn K C (.type "object") = some true
def rIsX (K : PySem.W.Frag) (a : Addr) (cls : Value) (d : Option Addr) : List V → Hp → VK → Prop := fun xs H Q => ∃ (C dd : Addr) (fs : List (Str × V)) (c : V) (u : Value) (b : Bool), xs = [.ref a, c] ∧ cls = .ref C ∧ XisC K C ∧ d = some dd ∧ H dd = some (.xd fs) ∧
  ClsV c u ∧ PySem.W.kitOne K cls u = some b ∧ Q (.bl b) H
section
variable {X : Cx} {a : Addr} {o : Obj} {cls : Value} {d : Option Addr} {pn : List (Addr × Obj)} {i : Nat}
theorem call_isx (hz : Zc cls d o) (hf : ∃ vs, o.data = .fields vs) : CallR (X.suite a ((a, o) :: pn)) (.builtin "isinstance") (rIsX X.K a cls d) := by
  intro pins s σ H xs us Q I r h
  obtain ⟨C, dd, fs, c, u, b, rfl, ec, T, ed, ea, cl, e, q⟩ := h
  obtain ⟨u1, u2, rfl, r1, r2⟩ := vals2 r
  cases (show u1 = Value.ref a from r1)
  have e2 := cl.eq r2
  subst e2 ec ed
  obtain ⟨ha, _⟩ := I.pin (a, o) (List.mem_append_left _ List.mem_cons_self)
  obtain ⟨vs, hd⟩ := hf
  have hx : ObjOk X.prog X.w H s.heap dd (.xd fs) := I.hok dd _ ea
  obtain ⟨mA, hns, _⟩ := hx
  obtain ⟨od, ho, _⟩ := lookIn_ns hns
  have J : PySem.W.InstAt s.heap a o C (some od) := ⟨ha, hz.1, by unfold PySem.W.notCls; rw [hd] <;> rfl, by rw [hz.2]; exact ho⟩
  exact PySem.W.kia_one (PySem.W.kitx_exc T.hc T.ga T.gt T.sub T.ha T.hn T.ht T.hm) I.kIn J e (fun z => nomatch z) fun tk => ⟨.bl b, H, I.tok tk, rfl, q⟩
end
def evXis (tbl : List (Str × Bool)) (c : Str) : Ev := fun _ S => match tbl.lookup c with
  | some b => .ok (.val (.bl b)) S
  | none => .no
theorem se_xis {K : PySem.W.Frag} {i : Nat} {a d : Addr} {fs : List (Str × G.D)} {c : Str} {cv : V} {u : Value} {tbl : List (Str × Bool)} (cl : ClsV cv u) (k : ∀ c b, tbl.lookup c = some b → PySem.W.kitOne K (.ref (ca K c)) u = some b ∧ XisC K (ca K c)) :
    SE K (inS K i a d fs) (tCB (rIsX K a (.ref (ca K c)) (some d)) (tCons (tVar i) (tCons (tC cv) tNil))) (evXis tbl c) := fun ρ S σ H0 H m Q φ rl re h => by
  obtain ⟨h1, gs, h2, h3⟩ := φ
  unfold evXis at h
  cases e : tbl.lookup c with
  | none => rw [e] at h; exact h.elim
  | some b =>
    rw [e] at h
    obtain ⟨k1, k2⟩ := k c b e
    exact ⟨.ref a, h1, ca K c, d, gs, cv, u, b, rfl, rfl, k2, rfl, rl.sub _ _ h2, cl, k1, h.now rl (RD.bl b)⟩
end G

set_option Elab.async false
set_option linter.all false
set_option maxRecDepth 100000
set_option maxHeartbeats 4000000
/-! G11: operators of one's own: ==, !=, [..]; a class held by a local name; classmethods. -/
namespace PySem
namespace GX
open PySem.W PySem.Calls PyProof.Rows Builtin
section
variable {prog : Program} {w : World} {A : Around} {E : Value → Shared → Prop} {s : Shared} {K : W.Frag} {x C f : Addr} {ox : Obj} {od : Option Obj} {b tb : Value}
/-- a special method of an instance that a built-in slot answers -/
theorem bound_slot {M : Model} {T id : String} {name : Str} {args : List Value} {Q : Option Value → Shared → Prop} (X : K.In s.heap) (I : W.InstAt s.heap x ox C od) (hs : W.findIn K (.ref C) name = some (some (.builtin id))) (S : Slot T name id)
    (h : wpAny M A (call (.builtin id) (.ref x :: args)) (fun v => Q (some v)) E s) : wpAny M A (callSpecialIfBound? (.ref x) name args) Q E s := by
  simp only [callSpecialIfBound?, bindSpecialIfBound?]
  refine wpAny_holding (wpAny_bind (wpAny_bind (wpAny_bind (I.type.here ((W.looks_findIn X hs).here ?_)))))
  simp only [S.bind]
  refine wpAny_bind (wpAny_askSetting (wpAny_ite ?_))
  have last : wpAny M A (do let v ← call (.builtin id) ([.ref x] ++ args); pure (some v)) Q E s := wpAny_bind (wpAny_mono h (fun v s' q => wpAny_pure q) fun _ _ q => q)
  split
  · exact wpAny_bind (wpAny_pure (wpAny_pure last))
  · exact wpAny_tryCatch (wpAny_bind (wpAny_pure (wpAny_pure last)))
/-- != of a class that has == of its own -/
theorem ne_of_eq {Q : Value → Shared → Prop} (hu : A.units + 1 < cLine) (X : K.In s.heap) (I : W.InstAt s.heap x ox C od) (hb : W.Looks (model prog w) s.heap (typeOf b) tb) (hn : W.notFirst K C tb = true)
    (hne : W.findIn K (.ref C) "__ne__" = some (some (.builtin "object.__ne__"))) (ho : W.mroIn K C (.type "object") = some true) (he : W.findIn K (.ref C) "__eq__" = some (some (.ref f))) (hf : W.isFn K (.ref f) = true)
    (h : wpAny (model prog w) A.in1 (call (.ref f) [.ref x, b]) (fun v s' => ∃ c, v = .bool c ∧ Q (.bool (!c)) s') E s) : wpAny (model prog w) A (richCompare .NotEq (.ref x) b) Q E s := by
  have S := PySem.F.cmp_object.ne
  have isO : W.Looks (model prog w) s.heap (isInstance (.ref x) (.type "object")) true := I.type.andThen (W.looks_mroIn X ho)
  have one : wpAny (model prog w) A (tryCompare (.ref x) "__ne__" b) (fun r s' => ∃ v, r = some v ∧ Q v s') E s := by
    unfold tryCompare
    refine wpAny_bind (bound_slot X I hne S (wpAny_call (codeAny_call_builtin S.plain PySem.F.cmpEntry_ne (W.check_slot PySem.F.cmpKind_ne PySem.F.cmpSplit_ne isO (PySem.F.cmpArgs_ne _ _) ?_))))
    unfold Builtin.«object.__ne__»
    refine wpAny_bind (wpAny_of_eq (a := ((Value.ref x : Value), [b])) (by first | rfl | (simp only [slotArgs]; rfl)) ?_)
    dsimp only
    refine wpAny_bind (wpAny_cRoomFor hu ?_)
    refine wpAny_bind (W.ifBound_K X I he hf (wpAny_mono h (fun v s' q => ?_) fun _ _ q => q))
    obtain ⟨c, rfl, q⟩ := q
    dsimp only
    refine wpAny_bind (wpAny_truthy_bool ?_)
    repeat (first | exact ⟨_, rfl, q⟩ | exact wpAny_pure ⟨_, rfl, q⟩ | refine wpAny_pure ?_)
  unfold richCompare
  simp only [oneThing_ref]
  refine wpAny_holding (wpAny_bind (wpAny_cRoomFor (Nat.lt_of_succ_lt hu) ?_))
  refine wpAny_bind (I.type.here (wpAny_bind (hb.here ?_)))
  have go : ∀ {G : Option Value → Sem Value}, (∀ v t, Q v t → wpAny (model prog w) A (G (some v)) Q E t) → wpAny (model prog w) A (tryCompare (.ref x) "__ne__" b >>= G) Q E s := fun k =>
    wpAny_bind (wpAny_mono one (fun r t z => by obtain ⟨v, rfl, q⟩ := z; exact k v t q) fun _ _ q => q)
  split
  · rename_i q
    have e : W.subIn K tb (.ref C) = some false := by
      rcases Bool.or_eq_true_iff.mp hn with z | z
      · rw [beq_iff_eq.mp z] at q; simp at q
      · exact beq_iff_eq.mp z
    refine wpAny_bind ((W.looks_subIn X e).here ?_)
    rw [if_neg Bool.false_ne_true]
    exact go fun v t z => wpAny_pure z
  · refine wpAny_bind (wpAny_pure ?_)
    rw [if_neg Bool.false_ne_true]
    exact go fun v t z => wpAny_pure z
end
end GX
end PySem

namespace G
open PySem PySem.Spec PyProof.Rows L2
section
variable {X : Cx} {CX : CXT} {k : Nat} {f C : Addr} {fd : FuncData} {ps : List Str} {sp : Sp} {E : L2.St → XK} {pins : List (Addr × Obj)} {σ : L2.St} {H : Hp} {s : Shared}
/-- a def runs one level below an expression -/
theorem run_below {EE : XK} {Q : VK} {us : List Value} {vs : List V} (F : FnOk X.prog X.w X.K X.mg X.base CX k f fd ps sp) (hr : Room (k + 1) X.A) (hb : Binds X.K fd ps []) (hx : PassesAt CX X σ EE)
    (I : Inv X pins σ H s) (r : Vals vs us) (h : sp vs H Q EE) : wpAny (model X.prog X.w) X.A.in1 (call (.ref f) us) (EP X pins σ Q) X.xe s := by
  have hl : us.length = ps.length := by rw [← r.length]; exact F.len _ _ _ _ h
  have bd := hb s us I.kIn (by rw [List.append_nil]; exact hl)
  rw [List.append_nil] at bd
  refine wpAny_call (codeAny_mono (F.run X.A.in1 X.stack s H ⟨us, []⟩ us vs Q EE hr.in1 I.env0.in1 bd r h) fun r s' z => ?_)
  cases r with
  | error e => exact hx pins H s e s' I z
  | ok fl =>
    cases fl with
    | ret u => exact I.after z
    | next => exact z.elim
    | brk => exact z.elim
    | cont => exact z.elim
/-- a == b, a != b, a of a class with == of its own -/
def rOwnEq (neg : Bool) (K : PySem.W.Frag) (C : Addr) (sp : Sp) : R2 := fun x y H Q => ∃ (a dx : Addr) (fs : List (Str × V)) (tb : Value), x = .ref a ∧ H a = some (.ins C dx fs) ∧ TyX K H y tb ∧ PySem.W.notFirst K C tb = true ∧
  sp [x, y] H (fun v H' => ∃ b, v = .bl b ∧ Q (.bl (if neg = true then !b else b)) H') fun _ _ _ => False
structure EqOwn (K : PySem.W.Frag) (C f : Addr) : Prop where
  eq : PySem.W.findIn K (.ref C) "__eq__" = some (some (.ref f))
  fn : PySem.W.isFn K (.ref f) = true
  ne : PySem.W.findIn K (.ref C) "__ne__" = some (some (.builtin "object.__ne__"))
  ob : PySem.W.mroIn K C (.type "object") = some true
theorem op_owneq (T : EqOwn X.K C f) (F : FnOk X.prog X.w X.K X.mg X.base CX k f fd ps sp) (hr : Room (k + 1) X.A) (hb : Binds X.K fd ps []) (hx : ∀ σ, PassesAt CX X σ (fun _ _ _ => False)) : OpR X (compareOp .Eq) (rOwnEq false X.K C sp) := by
  intro pins s σ H x y v u Q I rx ry h
  obtain ⟨a, dx, fs, tb, rfl, ea, ty, nf, h⟩ := h
  cases rx
  obtain ⟨mA, O, _⟩ := ins_get I.hok ea
  obtain ⟨od, J, _⟩ := O.look
  obtain ⟨P, Z, p, _⟩ := kit_of I ry ty
  obtain ⟨m, hF⟩ := I.fr
  show wpAny _ _ (richCompare .Eq (.ref a) u) _ _ _
  refine PySem.W.cmp_K (op := .Eq) (tb := tb) hr.units0 hF I.ok.mod.kin J (Z.ty _ _ I.kIn p) nf T.eq T.fn ?_
  have bd := hb s [.ref a, u] I.kIn (by have := F.len _ _ _ _ h; simpa using this)
  rw [List.append_nil] at bd
  refine wpAny_call (codeAny_mono (F.run X.A X.stack s H ⟨[.ref a, u], []⟩ [.ref a, u] [.ref a, y] _ _ (hr.mono (Nat.le_succ _)) I.env0 bd (.cons rfl (.cons ry .nil)) h) fun r s' z => ?_)
  cases r with
  | error e => exact hx σ pins H s e s' I z
  | ok fl =>
    cases fl with
    | ret w =>
      obtain ⟨v, H', I', rv, b, rfl, q⟩ := I.after z
      cases (show w = Value.bool b from rv)
      exact ⟨.bl b, H', I', rfl, q⟩
    | next => exact z.elim
    | brk => exact z.elim
    | cont => exact z.elim
theorem op_ownne (T : EqOwn X.K C f) (F : FnOk X.prog X.w X.K X.mg X.base CX k f fd ps sp) (hr : Room (k + 1) X.A) (hb : Binds X.K fd ps []) (hx : ∀ σ, PassesAt CX X σ (fun _ _ _ => False)) : OpR X (compareOp .NotEq) (rOwnEq true X.K C sp) := by
  intro pins s σ H x y v u Q I rx ry h
  obtain ⟨a, dx, fs, tb, rfl, ea, ty, nf, h⟩ := h
  cases rx
  obtain ⟨mA, O, _⟩ := ins_get I.hok ea
  obtain ⟨od, J, _⟩ := O.look
  obtain ⟨P, Z, p, _⟩ := kit_of I ry ty
  show wpAny _ _ (richCompare .NotEq (.ref a) u) _ _ _
  refine PySem.GX.ne_of_eq hr.in1.units0 I.kIn J (Z.ty _ _ I.kIn p) nf T.ne T.ob T.eq T.fn ?_
  refine thn (run_below F hr hb (hx σ) I (vs := [.ref a, y]) (.cons rfl (.cons ry .nil)) h) fun w s' z => ?_
  obtain ⟨v, H', I', rv, b, rfl, q⟩ := z
  cases (show w = Value.bool b from rv)
  exact ⟨b, rfl, .bl (!b), H', I', rfl, q⟩
/-- o[i], o of a class with [..] of its own -/
def tSubO (C : Addr) (sp : Sp) (E : L2.St → XK) (ta ti : TE) : TE := fun σ H Q => ta σ H fun x H1 => ti σ H1 fun i H2 => ∃ (a dx : Addr) (fs : List (Str × V)), x = .ref a ∧ H2 a = some (.ins C dx fs) ∧ sp [x, i] H2 Q (E σ)
theorem pe_subO {a b : Expr} {ta tb : TE} {pos : Pos} (ha : PE X a ta) (hb' : PE X b tb) (hs : PySem.W.findIn X.K (.ref C) "__getitem__" = some (some (.ref f))) (hi : PySem.W.fnIn X.K f = true) (hfn : PySem.W.isFn X.K (.ref f) = true)
    (F : FnOk X.prog X.w X.K X.mg X.base CX k f fd ps sp) (hr : Room (k + 1) X.A) (hb : Binds X.K fd ps []) (hx : ∀ σ, PassesAt CX X σ (E σ))
    (hsl : ∀ o i, subscripted b true o i = runValue (.builtin "lifetime.subscript" ⟨[o, i], []⟩) := by intro _ _; with_unfolding_all rfl) : PE X (.Subscript a b pos) (tSubO C sp E ta tb) := by
  refine ⟨fun pins s σ H Q I h => Subscript_ (binT ha hb' I h fun v u s2 x y H2 I2 rx ry q => ?_)⟩
  obtain ⟨p, dx, fs, rfl, ea, q⟩ := q
  cases rx
  obtain ⟨mA, O, _⟩ := ins_get I2.hok ea
  obtain ⟨od, J, _⟩ := O.look
  obtain ⟨m, hF⟩ := I2.fr
  exact PySem.W.sub_K hF I2.ok.mod.kin J hs hi hfn (run_below F hr hb (hx σ) I2 (vs := [.ref p, y]) (.cons rfl (.cons ry .nil)) q) (hsl _ _)
end
end G

set_option Elab.async false
set_option linter.all false
set_option maxRecDepth 100000
set_option maxHeartbeats 4000000
/-! G12: the evaluators of G11's operators; properties; classmethods; a class that a local name holds. -/
namespace G
open PySem PySem.Spec PyProof.Rows L2

/-- the first that answers -/
def R.or {α : Type} (a b : R α) : R α := match a with
  | .no => b
  | r => r
section
variable {K : PySem.W.Frag} {w : WX} {H0 H A B : Hp} {m n : Mp} {S : Hs} {ρ : Env} {σ : L2.St}
theorem Post.or {α β : Type} {rel : Hp → Mp → α → β → Prop} {Q : β → Hp → Prop} {E : XK} {a b : R α} (h : Post K H0 H m rel Q E (a.or b)) : Post K H0 H m rel Q E a ∨ Post K H0 H m rel Q E b := by
  cases a with
  | ok a S => exact .inl h
  | exc c fs S => exact .inl h
  | no => exact .inr h
def gOr (f g : W → W → Hs → R W) : W → W → Hs → R W := fun x y S => (f x y S).or (g x y S)
theorem o_or {r r' : R2} {f g : W → W → Hs → R W} (h : O2 K r f) (h' : O2 K r' g) : O2 K (fun x y H Q => r x y H Q ∨ r' x y H Q) (gOr f g) := fun x y v u S H0 H m Q E rl rx ry p =>
  (Post.or p).elim (fun z => .inl (h x y v u S H0 H m Q E rl rx ry z)) fun z => .inr (h' x y v u S H0 H m Q E rl rx ry z)
def evOr2 (a b : Ev) : Ev := fun ρ S => (a ρ S).or (b ρ S)
theorem se_or2 {cw : Wc} {t u : TE} {a b : Ev} (h : SE K cw t a) (h' : SE K cw u b) : SE K cw (fun σ H Q => t σ H Q ∨ u σ H Q) (evOr2 a b) := fun ρ S σ H0 H m Q φ rl re p =>
  (Post.or p).elim (fun z => .inl (h ρ S σ H0 H m Q φ rl re z)) fun z => .inr (h' ρ S σ H0 H m Q φ rl re z)
theorem pe_or2 {X : Cx} {e : Expr} {t u : TE} (h : PE X e t) (h' : PE X e u) : PE X e (fun σ H Q => t σ H Q ∨ u σ H Q) := ⟨fun pins s σ H Q I q => q.elim (h.run pins s σ H Q I) (h'.run pins s σ H Q I)⟩
theorem op_or {X : Cx} {f : Value → Value → Sem Value} {r r' : R2} (h : OpR X f r) (h' : OpR X f r') : OpR X f (fun x y H Q => r x y H Q ∨ r' x y H Q) := fun pins s σ H x y v u Q I rx ry q => q.elim (h pins s σ H x y v u Q I rx ry) (h' pins s σ H x y v u Q I rx ry)

/-- a call in which nothing is raised -/
def callN (run : Run) : Run := fun ws S => match callV run ws S with
  | .ok x S' => .ok x S'
  | _ => .no
theorem callN_lift {run : Run} {ws : List W} {vs : List V} {Q : VK} {E : XK} (rl : Rl K H0 H m S) (r : RWs K H0 m ws vs) (h : Post K H0 H m (relW K) Q E (callN run ws S)) : spF K run vs H Q fun _ _ _ => False := by
  refine call_lift rl r ?_
  unfold callN at h
  cases e : callV run ws S with
  | ok x S' => rw [e] at h; exact h
  | exc c fs S' => rw [e] at h; exact h.elim
  | no => rw [e] at h; exact h.elim
/-- T: of what b may be -/
def gOwnEq (neg : Bool) (c : Str) (T : Isq) (run : Run) : W → W → Hs → R W := fun x y S => match x with
  | .val (.obj c' fs) => if c' = c then (match tagW y S with
    | some t => if T.ans t = some true then (match callN run [x, y] S with
      | .ok (.val (.bl b)) S' => .ok (.val (.bl (if neg = true then !b else b))) S'
      | _ => .no) else .no
    | none => .no) else .no
  | _ => .no
def NotFirst (K : PySem.W.Frag) (c : Str) (T : Isq) : Prop := ∀ t, T.ans t = some true → PySem.W.notFirst K (ca K c) (tgV K t) = true ∧ OwnT K t
theorem o_owneq {neg : Bool} {c : Str} {T : Isq} {run : Run} (k : NotFirst K c T) : O2 K (rOwnEq neg K (ca K c) (spF K run)) (gOwnEq neg c T run) := by
  intro x y v u S H0 H m Q E rl rx ry h
  unfold gOwnEq at h
  split at h
  · rename_i c' fs
    by_cases q : c' = c
    · rw [if_pos q] at h
      subst q
      cases e : tagW y S with
      | none => rw [e] at h; exact h.elim
      | some t =>
        rw [e] at h
        dsimp only at h
        by_cases q2 : T.ans t = some true
        · rw [if_pos q2] at h
          obtain ⟨k1, k2⟩ := k t q2
          cases rx with
          | @obj _ _ a dx gs h2 r2 =>
            refine ⟨a, dx, gs, _, rfl, rl.sub _ _ h2, tag_ok rl ry e k2, k1, ?_⟩
            have rx : RW K H0 m (.val (.obj c' fs)) (.ref a) := RD.obj h2 r2
            refine callN_lift (ws := [.val (.obj c' fs), y]) (E := E) rl (.cons rx (.cons ry .nil)) ?_
            cases e3 : callN run [.val (.obj c' fs), y] S with
            | exc _ _ _ => rw [e3] at h; exact h.elim
            | no => rw [e3] at h; exact h.elim
            | ok z S' =>
              rw [e3] at h
              split at h
              · rename_i b S2 e4
                cases e4
                intro A B n v2 xt rl2 r3
                cases r3
                exact ⟨b, rfl, h A B n _ xt rl2 (RD.bl _)⟩
              · exact h.elim
        · rw [if_neg q2] at h; exact h.elim
    · rw [if_neg q] at h; exact h.elim
  · exact h.elim
/-- o[i] -/
def evSubO (c : Str) (run : Run) (a b : Ev) : Ev := evBin (fun x y S => match x with
  | .val (.obj c' fs) => if c' = c then callV run [x, y] S else .no
  | _ => .no) a b
theorem se_subO {cw : Wc} {c : Str} {run : Run} {ta tb : TE} {a b : Ev} (ha : SE K cw ta a) (hb : SE K cw tb b) : SE K cw (tSubO (ca K c) (spF K run) (WE cw.x) ta tb) (evSubO c run a b) := fun ρ S σ H0 H m Q φ rl re h =>
  ha ρ S σ H0 H m _ φ rl re (h.bind fun x S1 A B n v _ xt rl1 r1 h1 => hb ρ S1 σ A B n _ (φ.on xt) rl1 (re.on xt) (h1.bind fun y S2 A2 B2 n2 u _ xt2 rl2 r2 h2 => by
    dsimp only at h2
    split at h2
    · rename_i c' fs _
      by_cases q : c' = c
      · rw [if_pos q] at h2
        subst q
        cases r1 with
        | @obj _ _ p dx gs h3 r3 =>
          have rx : RW K A2 n2 (.val (.obj c' fs)) (.ref p) := RD.mono xt2.h0 (RD.obj h3 r3)
          exact ⟨p, dx, gs, rfl, rl2.sub _ _ (xt2.h0 _ _ h3), call_lift rl2 (.cons rx (.cons r2 .nil)) h2⟩
      · rw [if_neg q] at h2; exact h2.elim
    · exact h2.elim))
/-- o.p, a property -/
def evProp (c : Str) (run : Run) (a : Ev) : Ev := evUn (fun x S => match x with
  | .val (.obj c' fs) => if c' = c then callN run [x] S else .no
  | _ => .no) a
theorem se_prop {cw : Wc} {c : Str} {run : Run} {ta : TE} {a : Ev} (ha : SE K cw ta a) : SE K cw (tProp (ca K c) (spF K run) [] (fun _ _ _ => False) ta) (evProp c run a) := fun ρ S σ H0 H m Q φ rl re h =>
  ha ρ S σ H0 H m _ φ rl re (h.bind fun x S1 A B n v _ xt rl1 r1 h1 => by
    dsimp only at h1
    split at h1
    · rename_i c' fs _
      by_cases q : c' = c
      · rw [if_pos q] at h1
        subst q
        cases r1 with
        | @obj _ _ p dx gs h3 r3 =>
          have rx : RW K A n (.val (.obj c' fs)) (.ref p) := RD.obj h3 r3
          exact ⟨p, dx, gs, rfl, rl1.sub _ _ h3, callN_lift rl1 (.cons rx .nil) h1⟩
      · rw [if_neg q] at h1; exact h1.elim
    · exact h1.elim)
end
end G

set_option Elab.async false
set_option linter.all false
set_option maxRecDepth 100000
set_option maxHeartbeats 4000000
/-! G13: classmethods; a class that a local name holds. -/
namespace G
open PySem PySem.Spec PyProof.Rows L2
section
variable {X : Cx} {CX : CXT} {k : Nat} {f g C p : Addr} {mc : Value} {fd : FuncData} {ps : List Str} {sp : Sp} {E : L2.St → XK} {o e : Expr} {es : List Expr} {m x : Str} {pos apos np : Pos} {ta : TE} {t tk : TA} {i n : Nat} {ks : List Str} {kws : List Keyword}
  {gW : List Value → List Value → List Value} {gV : List V → List V → List V}
/-- C.m(..), m a classmethod; what is raised is told at the slots -/
def tCmS (C : Addr) (sp : Sp) (E : L2.St → XK) (ta : TE) (t : TA) : TE := fun σ H Q => ta σ H fun x H1 => x = .ref C ∧ t σ H1 fun vs H2 => sp (.ref C :: vs) H2 Q (E σ)
theorem pe_cmS {pl : Sem Bool} (he : PE X o ta) (r : ClX.CRead X.K C mc) (c : ClX.CMet X.K C mc m p g) (F : FnOk X.prog X.w X.K X.mg X.base CX k g fd ps sp) (hr : Room k X.A) (hb : Binds X.K fd ps []) (hx : ∀ σ, PassesAt CX X σ (E σ)) (ha : PA X (e :: es) t)
    (hst : starEach (e :: es) X.env = (false, eval e X.env) :: starEach es X.env := by rfl) (hpl : (backTo pos (starEach es X.env)).any (·.1) = false := by rfl)
    (ht : eval (.Call (.Attribute o m apos) (e :: es) [] pos) X.env = (do
      let own ← eval o X.env
      standAt apos.atName
      let (g, first) ← holding [own] (getMethod own m pl)
      callWith pos g first (backTo pos (starEach (e :: es) X.env)) (backToKw pos (keywordEach [] X.env))) := by rfl) :
    PE X (.Call (.Attribute o m apos) (e :: es) [] pos) (tCmS C sp E ta t) := by
  constructor
  intro pins s σ H Q I h
  refine PySem.W.methodCall_KW (pl := pl) (thn (he.run pins s σ H _ I h) ?_) ht
  rintro u s1 ⟨x, H1, I1, rx, ex, q⟩
  subst ex
  cases rx
  refine ClX.getmethcm_ok I1 r c fun s2 I2 => ?_
  refine ClX.callwith_cm I2 (ClX.base_none I1 (Nat.le_refl _)) c.fi (thn (ha.run pos _ s2 σ H1 _ I2 q) ?_) hst hpl
  rintro us s3 ⟨vs, H2, I3, rv, q2⟩
  refine ⟨⟨ClX.pin_at I3, I3.kIn⟩, ?_⟩
  have l : (Value.ref C :: us).length = ps.length := by
    have a := F.len _ _ _ _ q2
    rw [← a, List.length_cons, List.length_cons, rv.length]
  have bd := hb s3 (.ref C :: us) I3.kIn (by rw [List.append_nil]; exact l)
  rw [List.append_nil] at bd
  have z : wpAny (model X.prog X.w) X.A (call (.ref s1.heap.objs.size) us) (EP X ((s1.heap.objs.size, PySem.W.methodObj (.ref g) (.ref C)) :: pins) σ Q) X.xe s3 := ?_
  · exact thn z fun _ _ y => ClX.unpinE y
  refine wpAny_call (PySem.W.method_call (ClX.pin_at I3) (codeAny_mono (F.run X.A X.stack s3 H2 ⟨.ref C :: us, []⟩ (.ref C :: us) (.ref C :: vs) Q (E σ) hr I3.env0 bd (.cons rfl rv) q2) fun r s' z => ?_))
  cases r with
  | error er => exact hx σ _ _ _ er s' I3 z
  | ok fl =>
    cases fl with
    | ret u => exact I3.after z
    | next => exact z.elim
    | brk => exact z.elim
    | cont => exact z.elim
/-- cls(..), the i-th slot the class at C -/
def tMkL (i : Nat) (C : Addr) (n m : Nat) (sp : Sp) (gV : List V → List V → List V) (E : L2.St → XK) (t tk : TA) : TE := fun σ H Q => σ[i]? = some (some (.ref C)) ∧ tMkS C n m sp gV E t tk σ H Q
theorem pe_mkL (M : Mk X.K C f) (F : FnOk X.prog X.w X.K X.mg X.base CX k f fd ps sp) (hr : Room (k + 1) X.A) (hN : X.N[i]? = some x) (hv : Vis X.env.scope x)
    (hb : KBn X.K fd ps (n + 1) ks gW gV) (hx : ∀ σ, PassesAt CX X σ (E σ)) (ha : PA X (e :: es) t) (hkw : PK X kws tk)
    (hall : (backToKw pos (keywordEach kws X.env)).all (·.1.isSome) = true := by rfl)
    (hks : (backToKw pos (keywordEach kws X.env)).filterMap (·.1) = ks := by rfl)
    (hdb : (x == ("__debug__" : Str)) = false := by decide) (hcd : (x == ("__classdict__" : Str)) = false := by decide)
    (he : starEach (e :: es) X.env = (false, eval e X.env) :: starEach es X.env := by rfl)
    (hpl : ((backTo pos (starEach (e :: es) X.env)).any (·.1) || (backToKw pos (keywordEach kws X.env)).any (·.1.isNone)) = false := by rfl) :
    PE X (.Call (.Name x np) (e :: es) kws pos) (tMkL i C n ks.length sp gV E t tk) := by
  constructor
  intro pins s σ H Q I h
  obtain ⟨hs, h⟩ := h
  refine wpAny_Call_Name_kw (thn ((pe_var (pos := np) hN hv hdb hcd).run pins s σ H (fun v H1 => v = .ref C ∧ H1 = H) I ⟨.ref C, hs, rfl, rfl⟩) ?_)
  rintro u s0 ⟨v, H0, I0, r0, e1, e2⟩
  subst e1 e2
  cases r0
  refine PySem.W.callWith_KW (h₀ := X.base) I.ok.mod.kin M.kp hall (thn (ha.run pos pins s0 σ H0 _ I0 h) ?_) hpl he
  rintro us s1 ⟨vs, H1, I1, r, q⟩
  refine thn (hkw.run pos pins s1 σ H1 _ I1 q) ?_
  rintro ws s2 ⟨zs, H2, I2, rz, l1, l2, q2⟩
  refine ⟨I2.kIn, ?_⟩
  rw [hks]
  exact run_mkS M F hr hb (hx σ) I2 r rz l1 l2 q2
end
/-! ### their evaluators -/
def evCmS (c : Str) (run : Run) (a : Ea) : Ev := fun ρ S => (a ρ S).bind fun ws S1 => callV run (.val (.cls c) :: ws) S1
def evMkL (i : Nat) (c : Str) (n mm : Nat) (run : Run) (put : List W → List W → List W) (a k : Ea) : Ev := fun ρ S => match ρ[i]? with
  | some (some (.val (.cls c'))) => if c' = c then evMk c n mm run put a k ρ S else .no
  | _ => .no
section
variable {K : PySem.W.Frag} {H0 H A B : Hp} {m n : Mp} {S : Hs} {ρ : Env} {σ : L2.St}
/-- the class by its global name -/
theorem se_cmS {cw : Wc} {c : Str} {run : Run} {t : TA} {a : Ea} (ha : SA K cw t a) : SE K cw (tCmS (ca K c) (spF K run) (WE cw.x) (tC (.ref (ca K c))) t) (evCmS c run a) := fun ρ S σ H0 H m Q φ rl re h =>
  ⟨rfl, ha ρ S σ H0 H m _ φ rl re (h.bind fun ws S1 A B n vs _ xt rl1 r1 h1 => call_lift (ws := .val (.cls c) :: ws) (vs := .ref (ca K c) :: vs) rl1 (.cons (show RW K A n (.val (.cls c)) (.ref (ca K c)) from RD.cls c) r1) h1)⟩
theorem se_mkL {cw : Wc} {i : Nat} {c : Str} {nn mm : Nat} {run : Run} {put : List W → List W → List W} {gV : List V → List V → List V} {t tk : TA} {a k : Ea}
    (hp : ∀ (H0 : Hp) (m : Mp) (ws zs : List W) (vs us : List V) (x : V), ws.length = nn → zs.length = mm → RWs K H0 m ws vs → RWs K H0 m zs us → ∃ ts, gV (x :: vs) us = x :: ts ∧ RWs K H0 m (put ws zs) ts)
    (ha : SA K cw t a) (hk : SA K cw tk k) : SE K cw (tMkL i (ca K c) nn mm (spF K run) gV (WE cw.x) t tk) (evMkL i c nn mm run put a k) := fun ρ S σ H0 H m Q φ rl re h => by
  unfold evMkL at h
  split at h
  · rename_i c' e
    by_cases q : c' = c
    · rw [if_pos q] at h
      subst q
      obtain ⟨v, hv, rv⟩ := re.at_ i _ e
      cases rv
      exact ⟨hv, se_mk hp ha hk ρ S σ H0 H m Q φ rl re h⟩
    · rw [if_neg q] at h; exact h.elim
  · exact h.elim
end
end G

set_option Elab.async false
set_option linter.all false
set_option maxRecDepth 100000
set_option maxHeartbeats 4000000
/-! G14: enumerate and zip over lists, tuples and texts. -/
namespace PySem
namespace GX
open PySem.W PySem.Calls PyProof.Rows
theorem enum_new1 {v : Value} {o : Obj} {H : Heap → Prop} (B : Begins v o H) :
    Meets (Builtin.«enumerate.__new__» ⟨[.type "enumerate", v], []⟩) (fun _ R s => H s.heap ∧
      R (.ok (.ret (.ref (s.heap.push o).objs.size))) { s with heap := (s.heap.push o).push { cls := .type "enumerate", data := .fields #[.none, .bool false, .ref s.heap.objs.size, rawInt 0, .none, .none] } }) :=
  .of_wp fun prog w A R s h => by
    obtain ⟨h1, h⟩ := h
    obtain ⟨hp, g, d, tk, os⟩ := s
    have hsub := sub_enumerate
    have it : ∀ {A' : Around} {E Q : Value → Shared → Prop}, Q (.ref hp.objs.size) ⟨hp.push o, g, d, tk, os⟩ → wpAny (model prog w) A' (pyIter v) Q E ⟨hp, g, d, tk, os⟩ := fun q => B.iter prog w _ _ _ _ h1 q
    wp_walk using it
    refine wpAny_stack_any fun st => wpAny_pure ?_
    split
    · rename_i c _ _ _ _ _
      cases (c == Value.type "enumerate") <;> (wp_walk using it; exact ⟨_, rfl, h⟩)
    · wp_walk using it
      exact ⟨_, rfl, h⟩
section
variable {prog : Program} {w : World} {A : Around} {E : Value → Shared → Prop} {s : Shared}
theorem enum_begins1 {v : Value} {o : Obj} {H : Heap → Prop} {Q : Value → Shared → Prop} (B : Begins v o H) (h1 : H s.heap)
    (h : ∀ h', IsEnum h' (s.heap.objs.size + 1) s.heap.objs.size 0 .none → h'.get? s.heap.objs.size = some o → h'.objs.size = s.heap.objs.size + 2 → (∀ b o, s.heap.get? b = some o → h'.get? b = some o) →
      Q (.ref (s.heap.objs.size + 1)) { s with heap := h' }) : wpAny (model prog w) A (call (.type "enumerate") [v]) Q E s := by
  refine callType_new F.called_enumerate (by decide) (F.typeCall_enumerate_1 _) (F.newCall_enumerate_1 _) (fun obj => F.args_object_init_2 obj _) F.entry_enumerate_new (enum_new1 B) ⟨h1, ?_⟩
  have z1 : (s.heap.push o).objs.size = s.heap.objs.size + 1 := Heap.size_push ..
  have z2 := Heap.get?_push_size (s.heap.push o) (o := { cls := .type "enumerate", data := .fields #[.none, .bool false, .ref s.heap.objs.size, rawInt 0, .none, .none] }) rfl
  show _ ∧ _
  rw [z1] at z2 ⊢
  exact ⟨⟨_, z2, rfl⟩, h _ z2 (Heap.get?_push_of_some _ (Heap.get?_push_size _ B.free)) (by rw [Heap.size_push, z1]) fun b u e => Heap.get?_push_of_some _ (Heap.get?_push_of_some _ e)⟩
end
end GX
end PySem
namespace G
open PySem PySem.Spec PyProof.Rows L2
/-- what an iterator may stand over -/
inductive Knd where
  | l (a : Addr) | t (a : Addr) | s (z : Str)
def Knd.v : Knd → V
  | .l a => .ref a
  | .t a => .ref a
  | .s z => .str z
def chV (z : Str) : List V := z.cps.toList.map fun c => V.str ⟨#[c]⟩
def Knd.has (K : PySem.W.Frag) (H : Hp) : Knd → List V → Prop
  | .l a, xs => SqL K H a xs
  | .t a, xs => SqT K H a xs
  | .s z, xs => xs = chV z
def Knd.more : Knd → List Addr
  | .l a => [a]
  | .t a => [a]
  | .s _ => []
def Knd.st : Knd → Addr → Nat → Heap → Prop
  | .l a, it, i, h => h.IsListIter it a i
  | .t a, it, i, h => h.IsTupleIter it a i
  | .s z, it, i, h => ∃ t, h.IsStrIter it (strIterType z) z t i
theorem vals_back {xs : List V} {us : List Value} (r : Vals xs us) : ∀ {j : Nat} {u : Value}, us[j]? = some u → ∃ x, xs[j]? = some x ∧ RelV x u := by
  induction r with
  | nil => intro j u e; simp at e
  | @cons x v xs us a r ih =>
    intro j u e
    cases j with
    | zero => cases e; exact ⟨x, rfl, a⟩
    | succ j => exact ih (by simpa using e)
section
variable {X : Cx} {pins : List (Addr × Obj)} {σ : L2.St} {H : Hp} {s : Shared}
theorem Knd.st_obj {k : Knd} {it : Addr} {i : Nat} {h : Heap} (st : k.st it i h) : ∃ o, h.get? it = some o ∧ ∀ v, o.data ≠ .cell v := by
  cases k with
  | l a => obtain ⟨o, e, _, d⟩ := st; exact ⟨o, e, fun v q => by rw [d] at q; cases q⟩
  | t a => obtain ⟨o, e, _, d⟩ := st; exact ⟨o, e, fun v q => by rw [d] at q; cases q⟩
  | s z => obtain ⟨t, o, e, _, d⟩ := st; exact ⟨o, e, fun v q => by rw [d] at q; cases q⟩
theorem Knd.st_at {k : Knd} {it : Addr} {i : Nat} {h h' : Heap} (st : k.st it i h) (f : ∀ o, h.get? it = some o → h'.get? it = some o) : k.st it i h' := by
  cases k with
  | l a => obtain ⟨o, e, c, d⟩ := st; exact ⟨o, f o e, c, d⟩
  | t a => obtain ⟨o, e, c, d⟩ := st; exact ⟨o, f o e, c, d⟩
  | s z => obtain ⟨t, o, e, c, d⟩ := st; exact ⟨t, o, f o e, c, d⟩
/-- how it draws -/
theorem Knd.draw {k : Knd} {xs : List V} {it : Addr} {i : Nat} {A : Around} (hh : A.handled = none) (I : Inv X pins σ H s) (hk : k.has X.K H xs) (ap : it ∉ k.more) (st : k.st it i s.heap) :
    ∃ (P : Nat → Value → Prop) (St : Nat → Heap → Prop), Draws X.prog X.w A it (it :: k.more) xs.length P St ∧ St i s.heap ∧ (∀ j h, St j h → k.st it j h) ∧ ∀ j u, P j u → ∃ x, xs[j]? = some x ∧ RelV x u := by
  cases k with
  | l a =>
    obtain ⟨its, rv, p, _⟩ := I.list hk
    have ne : a ≠ it := fun q => ap (by rw [q]; exact List.mem_singleton.mpr rfl)
    have D := Draws.list (prog := X.prog) (w := X.w) hh it a ne its.toArray
    have hl : its.toArray.size = xs.length := by rw [rv.length]; rfl
    rw [hl] at D
    refine ⟨_, _, D, ⟨st, p.isList⟩, fun j h q => q.1, fun j u q => ?_⟩
    exact vals_back rv (by simpa using q)
  | t a =>
    obtain ⟨its, rv, p, _⟩ := I.tuple hk
    have ne : a ≠ it := fun q => ap (by rw [q]; exact List.mem_singleton.mpr rfl)
    have D := Draws.tuple (prog := X.prog) (w := X.w) hh it a ne its.toArray
    have hl : its.toArray.size = xs.length := by rw [rv.length]; rfl
    rw [hl] at D
    refine ⟨_, _, D, ⟨st, p⟩, fun j h q => q.1, fun j u q => ?_⟩
    exact vals_back rv (by simpa using q)
  | s z =>
    obtain ⟨t, st⟩ := st
    have D := Draws.text (prog := X.prog) (w := X.w) hh it z t
    have e : xs = chV z := hk
    subst e
    have hl : z.cps.size = (chV z).length := by simp [chV]
    rw [hl] at D
    refine ⟨_, _, D, st, fun j h q => ⟨t, q⟩, fun j u q => ?_⟩
    obtain ⟨c, t2, e1, e2⟩ := q
    subst e2
    exact ⟨.str ⟨#[c]⟩, by simp [chV, e1], ⟨t2, rfl⟩⟩

/-! ### enumerate -/
def Iten (K : PySem.W.Frag) (k : Knd) : It := ⟨fun i H => ∃ xs x, k.has K H xs ∧ xs[i]? = some x, fun i H v H' => ∃ T x, v = .ref T ∧ H T = none ∧ H' = upd H T (.tup [.int (i : Nat), x]) ∧ ∀ xs, k.has K H xs → xs[i]? = some x,
  fun i H => ∃ xs, k.has K H xs ∧ xs.length = i⟩
theorem Knd.inj {k : Knd} {xs ys : List V} (I : Inv X pins σ H s) (h : k.has X.K H xs) (h' : k.has X.K H ys) : xs = ys := by
  cases k with
  | l a => exact I.list_inj h h'
  | t a => exact I.tuple_inj h h'
  | s z => exact h.trans h'.symm
theorem turn_en {P : Program} {w : World} {K : PySem.W.Frag} {elts : List Expr} {kk : Nat} {tpos : Pos} {k : Knd} {e it : Addr} (d1 : e ≠ it) (d2 : e ∉ it :: k.more) (d3 : it ∉ k.more) :
    Turn P w K (.Tuple elts kk tpos) (Iten K k) [e, it] e (fun i h => (∃ old, IsEnum h e it ((i : Nat) : Int) old) ∧ k.st it i h) where
  mem := by simp
  obj := fun i h st b hb => by
    obtain ⟨⟨old, he⟩, hi⟩ := st
    have q : b = e ∨ b = it := by simpa using hb
    rcases q with rfl | rfl
    · exact ⟨_, he, fun v z => nomatch z⟩
    · exact Knd.st_obj hi
  keep := fun i h h' st f => by
    obtain ⟨⟨old, he⟩, hi⟩ := st
    exact ⟨⟨old, f e (by simp) _ he⟩, Knd.st_at hi fun o q => f it (by simp) o q⟩
  item := by
    intro X hP hw hK hc i pins s σ H E I hf st hg
    subst hP hw hK
    obtain ⟨⟨old, he⟩, hi⟩ := st
    obtain ⟨xs, x, hx, ex⟩ := hg
    obtain ⟨Pd, St, D, st, back, rel⟩ := Knd.draw (A := X.A.in1) (show X.A.handled = none from I.ok.hd hc) I hx d3 hi
    have hlt : i < xs.length := by
      rcases Nat.lt_or_ge i xs.length with q | q
      · exact q
      · rw [List.getElem?_eq_none q] at ex; cases ex
    refine wpAny_pyNext_enum_itemC D he st hlt d1 d2 fun u h' tk pu ho st' hT hz f => ?_
    obtain ⟨x2, ex2, ru⟩ := rel i u pu
    rw [ex] at ex2
    cases ex2
    refine ⟨_, rfl, wpAny_letOwnedTupleGo_enum (s := { s with heap := h', toks := tk + 1 }) ho fun h2 he2 sb => ?_⟩
    have le : e < s.heap.objs.size := Heap.lt_size he
    have li : it < s.heap.objs.size := by obtain ⟨o, q, _⟩ := Knd.st_obj hi; exact Heap.lt_size q
    have hT2 : h2.get? s.heap.objs.size = some { cls := .type "tuple", data := .seq #[.int i tk, u] } := (sb.2 _ (Nat.ne_of_gt le)).trans hT
    have new : ObjOk X.prog X.w (upd H s.heap.objs.size (.tup [.int (i : Nat), x])) h2 s.heap.objs.size (.tup [.int (i : Nat), x]) :=
      ⟨by show 2 ≤ sizeLine; decide, [.int i tk, u], .cons ⟨_, rfl⟩ (.cons ru .nil), ⟨_, hT2, rfl, _, rfl⟩⟩
    have I1 : Inv X pins σ (upd H s.heap.objs.size (.tup [.int (i : Nat), x])) { s with heap := h2, toks := tk + 1 } :=
      I.turnedNew (ch := [e, it]) (fun b o hb q => (sb.2 b (fun z => hb (by simp [z]))).trans (f b o (fun z => hb (by simp [z])) (fun z => hb (by simp [z])) q)) hf (Nat.le_refl _) new
    refine ⟨.ref s.heap.objs.size, _, I1, rfl, ⟨_, x, rfl, I.hok.fresh (Nat.le_refl _), rfl, fun ys hy => by rw [Knd.inj I hy hx]; exact ex⟩, ⟨⟨u, ?_⟩, Knd.st_at (back _ _ st') fun o q => (sb.2 it (Ne.symm d1)).trans q⟩, fun b hb => ?_⟩
    · have z : ((i + 1 : Nat) : Int) = (i : Int) + 1 := by omega
      rw [z]; exact he2
    · have lb : b < s.heap.objs.size := by
        have q : b = e ∨ b = it := by simpa using hb
        rcases q with rfl | rfl
        · exact le
        · exact li
      rw [upd_ne (Nat.ne_of_lt lb)]
      exact (hf b hb).1
  done := by
    intro X hP hw hK hc i pins s σ H E I hf st hg
    subst hP hw hK
    obtain ⟨⟨old, he⟩, hi⟩ := st
    obtain ⟨xs, hx, el⟩ := hg
    obtain ⟨Pd, St, D, st, back, rel⟩ := Knd.draw (A := X.A.in1) (show X.A.handled = none from I.ok.hd hc) I hx d3 hi
    rw [← el] at st
    obtain ⟨f0, f1, f2, f3, f4, f5⟩ := hf it (by simp)
    exact wpAny_pyNext_enum_endD D he st fun h' eb => ⟨rfl, I.turned (t' := s.toks) (fun b o hb q => eb b o hb q) f0 f1 f3 f4 f5⟩
  self := fun A i s Q E st h => by
    obtain ⟨⟨old, he⟩, _⟩ := st
    exact wpAny_pyIter_enum he h
def iEn (K : PySem.W.Frag) (ta : TA) : TI := fun σ H R => ta σ H fun vs H1 => ∃ (k : Knd) (xs : List V), vs = [k.v] ∧ k.has K H1 xs ∧ R (Iten K k) H1
/-- how it begins -/
theorem Knd.begins {k : Knd} {xs : List V} {u : Value} (I : Inv X pins σ H s) (hk : k.has X.K H xs) (r : RelV k.v u) : ∃ (o : Obj) (Hh : Heap → Prop), Begins u o Hh ∧ Hh s.heap ∧ (∀ (it : Addr) (h : Heap), h.get? it = some o → k.st it 0 h) ∧ ∀ b ∈ k.more, b < s.heap.objs.size := by
  cases k with
  | l a =>
    obtain ⟨its, rv, p, _⟩ := I.list hk
    cases (show u = Value.ref a from r)
    exact ⟨_, _, begins_list a its.toArray, p.isList, fun it h e => ⟨_, e, rfl, rfl⟩, fun b hb => by rw [List.mem_singleton.mp hb]; exact p.lt⟩
  | t a =>
    obtain ⟨its, rv, p, _⟩ := I.tuple hk
    cases (show u = Value.ref a from r)
    exact ⟨_, _, begins_tuple a its.toArray, p, fun it h e => ⟨_, e, rfl, rfl⟩, fun b hb => by rw [List.mem_singleton.mp hb]; obtain ⟨o, e, _⟩ := id p; exact Heap.lt_size e⟩
  | s z =>
    obtain ⟨t, q⟩ := (show ∃ t, u = Value.str z t from r)
    subst q
    exact ⟨_, _, begins_text z t, trivial, fun it h e => ⟨t, _, e, rfl, rfl⟩, fun b hb => by cases hb⟩
theorem pi_en {e : Expr} {ta : TA} {p pos tpos : Pos} {elts : List Expr} {kk : Nat} (hg : Gl X "enumerate") (hm : X.mg "enumerate" = none) (ha : PA X [e] ta) (hs : starEach [e] X.env = [(false, eval e X.env)] := by rfl) :
    PI X (.Tuple elts kk tpos) (.Call (.Name "enumerate" p) [e] [] pos) (iEn X.K ta) := by
  refine ⟨fun pins s σ H R I h => Call_ (ld_blt I hg hm boot_enumerate (PyProof.Rows.callWith_type1 (thn (ha.run pos pins s σ H _ I h) ?_) hs rfl))⟩
  rintro us s1 ⟨vs, H1, I1, r1, k, xs, rfl, hk, q⟩
  cases r1 with
  | cons r rr =>
    cases rr
    obtain ⟨o, Hh, B, h1, st0, lt⟩ := Knd.begins I1 hk r
    refine PySem.GX.enum_begins1 B h1 fun h' he ho hz f => wpAny_pyIter_enum he ?_
    have I2 : Inv X pins σ H1 { s1 with heap := h' } := I1.kept (t' := s1.toks) f
    have nin : ∀ j, s1.heap.objs.size ≤ j → j ∉ k.more := fun j l z => absurd (lt j z) (Nat.not_lt.mpr l)
    refine ⟨s1.heap.objs.size + 1, [s1.heap.objs.size + 1, s1.heap.objs.size], _, _, H1, rfl, I2, turn_en (k := k) (Nat.succ_ne_self _) (fun z => ?_) (nin _ (Nat.le_refl _)), ⟨⟨.none, he⟩, st0 _ _ ho⟩, fun b hb => ?_, q⟩
    · rcases List.mem_cons.mp z with z | z
      · exact Nat.succ_ne_self _ z
      · exact nin _ (Nat.le_succ _) z
    · have q : b = s1.heap.objs.size + 1 ∨ b = s1.heap.objs.size := by simpa using hb
      have hle : s1.heap.objs.size ≤ b := by rcases q with rfl | rfl; exact Nat.le_succ _; exact Nat.le_refl _
      exact I1.fpOk hle (I1.hok.fresh hle)
end
end G

set_option Elab.async false
set_option linter.all false
set_option maxRecDepth 100000
set_option maxHeartbeats 4000000
/-! G15: zip of two; the evaluators of enumerate and zip. -/
namespace G
open PySem PySem.Spec PyProof.Rows L2
section
variable {X : Cx} {pins : List (Addr × Obj)} {σ : L2.St} {H : Hp} {s : Shared}
def Itzp (K : PySem.W.Frag) (k j : Knd) : It := ⟨fun i H => ∃ xs ys x y, k.has K H xs ∧ j.has K H ys ∧ xs[i]? = some x ∧ ys[i]? = some y,
  fun i H v H' => ∃ T x y, v = .ref T ∧ H T = none ∧ H' = upd H T (.tup [x, y]) ∧ (∀ xs, k.has K H xs → xs[i]? = some x) ∧ ∀ ys, j.has K H ys → ys[i]? = some y,
  fun i H => ∃ xs ys, k.has K H xs ∧ j.has K H ys ∧ i ≤ xs.length ∧ i ≤ ys.length ∧ (i = xs.length ∨ i = ys.length)⟩
theorem has_lt {α : Type} {xs : List α} {i : Nat} {x : α} (e : xs[i]? = some x) : i < xs.length := by
  rcases Nat.lt_or_ge i xs.length with q | q
  · exact q
  · rw [List.getElem?_eq_none q] at e; cases e
theorem turn_zp {P : Program} {w : World} {K : PySem.W.Frag} {elts : List Expr} {kk : Nat} {tpos : Pos} {k j : Knd} {z TI TO i1 i2 : Addr} (S : ZipSep2 z TI TO i1 i2 (i1 :: k.more) (i2 :: j.more)) (d1 : i1 ∉ k.more) (d2 : i2 ∉ j.more) :
    Turn P w K (.Tuple elts kk tpos) (Itzp K k j) [z, TI, TO, i1, i2] z (fun i h => IsZip h z TI TO .none ∧ IsTupOf2 h TI (.ref i1) (.ref i2) ∧ (∃ x y, IsTupOf2 h TO x y) ∧ k.st i1 i h ∧ j.st i2 i h) where
  mem := by simp
  obj := fun i h st b hb => by
    obtain ⟨hz, hTI, ⟨x, y, hTO⟩, h1, h2⟩ := st
    have q : b = z ∨ b = TI ∨ b = TO ∨ b = i1 ∨ b = i2 := by simpa using hb
    rcases q with rfl | rfl | rfl | rfl | rfl
    · exact ⟨_, hz, fun v q => nomatch q⟩
    · exact ⟨_, hTI, fun v q => nomatch q⟩
    · exact ⟨_, hTO, fun v q => nomatch q⟩
    · exact Knd.st_obj h1
    · exact Knd.st_obj h2
  keep := fun i h h' st f => by
    obtain ⟨hz, hTI, ⟨x, y, hTO⟩, h1, h2⟩ := st
    exact ⟨f z (by simp) _ hz, f TI (by simp) _ hTI, ⟨x, y, f TO (by simp) _ hTO⟩, Knd.st_at h1 fun o q => f i1 (by simp) o q, Knd.st_at h2 fun o q => f i2 (by simp) o q⟩
  item := by
    intro X hP hw hK hc i pins s σ H E I hf st hg
    subst hP hw hK
    obtain ⟨hz, hTI, ⟨x0, y0, hTO⟩, h1, h2⟩ := st
    obtain ⟨xs, ys, x, y, hx, hy, ex, ey⟩ := hg
    have hd : X.A.in1.handled = none := show X.A.handled = none from I.ok.hd hc
    obtain ⟨P1, S1, D1, s1, back1, rel1⟩ := Knd.draw (A := X.A.in1) hd I hx d1 h1
    obtain ⟨P2, S2, D2, s2, back2, rel2⟩ := Knd.draw (A := X.A.in1) hd I hy d2 h2
    refine wpAny_pyNext_zipD2_item S D1 D2 hz hTI hTO s1 s2 (has_lt ex) (has_lt ey) fun u v h' tk pu pv z' TO' t1 t2 hT hsz f => ?_
    obtain ⟨x2, ex2, ru⟩ := rel1 i u pu
    obtain ⟨y2, ey2, rv⟩ := rel2 i v pv
    rw [ex] at ex2; cases ex2
    rw [ey] at ey2; cases ey2
    refine ⟨_, rfl, wpAny_letOwnedTupleGo_zip (s := { s with heap := h', toks := tk }) z' fun h'' z'' sb => ?_⟩
    have lz : z < s.heap.objs.size := Heap.lt_size hz
    have l1 : i1 < s.heap.objs.size := by obtain ⟨o, q, _⟩ := Knd.st_obj h1; exact Heap.lt_size q
    have l2 : i2 < s.heap.objs.size := by obtain ⟨o, q, _⟩ := Knd.st_obj h2; exact Heap.lt_size q
    have hT2 : h''.get? s.heap.objs.size = some { cls := .type "tuple", data := .seq #[u, v] } := (sb.2 _ (Nat.ne_of_gt lz)).trans hT
    have new : ObjOk X.prog X.w (upd H s.heap.objs.size (.tup [x, y])) h'' s.heap.objs.size (.tup [x, y]) := ⟨by show 2 ≤ sizeLine; decide, [u, v], .cons ru (.cons rv .nil), ⟨_, hT2, rfl, _, rfl⟩⟩
    have I1 : Inv X pins σ (upd H s.heap.objs.size (.tup [x, y])) { s with heap := h'', toks := tk } :=
      I.turnedNew (ch := [z, TI, TO, i1, i2]) (fun c o hb q => (sb.2 c (fun q' => hb (by simp [q']))).trans (f c o (fun q' => hb (by simp [q'])) (fun q' => hb (by simp [q'])) (fun q' => hb (by simp [q'])) (fun q' => hb (by simp [q'])) q)) hf (Nat.le_refl _) new
    refine ⟨.ref s.heap.objs.size, _, I1, rfl, ⟨_, x, y, rfl, I.hok.fresh (Nat.le_refl _), rfl, fun l hl => by rw [Knd.inj I hl hx]; exact ex, fun l hl => by rw [Knd.inj I hl hy]; exact ey⟩, ⟨z'', ?_, ⟨u, v, ?_⟩, ?_, ?_⟩, fun c hcm => ?_⟩
    · exact (sb.2 _ S.TIz).trans (f _ _ S.TIz S.TITO S.TIi1 S.TIi2 hTI)
    · exact (sb.2 _ S.TOz).trans TO'
    · exact Knd.st_at (back1 _ _ t1) fun o q => (sb.2 _ (Ne.symm S.zi1)).trans q
    · exact Knd.st_at (back2 _ _ t2) fun o q => (sb.2 _ (Ne.symm S.zi2)).trans q
    · have lc : c < s.heap.objs.size := by
        have q : c = z ∨ c = TI ∨ c = TO ∨ c = i1 ∨ c = i2 := by simpa using hcm
        rcases q with rfl | rfl | rfl | rfl | rfl
        · exact lz
        · exact Heap.lt_size hTI
        · exact Heap.lt_size hTO
        · exact l1
        · exact l2
      rw [upd_ne (Nat.ne_of_lt lc)]
      exact (hf c hcm).1
  done := by
    intro X hP hw hK hc i pins s σ H E I hf st hg
    subst hP hw hK
    obtain ⟨hz, hTI, ⟨x0, y0, hTO⟩, h1, h2⟩ := st
    obtain ⟨xs, ys, hx, hy, le1, le2, e⟩ := hg
    have hd : X.A.in1.handled = none := show X.A.handled = none from I.ok.hd hc
    obtain ⟨P1, S1, D1, s1, back1, rel1⟩ := Knd.draw (A := X.A.in1) hd I hx d1 h1
    obtain ⟨P2, S2, D2, s2, back2, rel2⟩ := Knd.draw (A := X.A.in1) hd I hy d2 h2
    refine wpAny_pyNext_zipD2_end S D1 D2 hz hTI hTO s1 s2 le1 le2 e fun h' tk f => ⟨rfl, I.turnedL (ch := [z, TI, TO, i1, i2]) (fun c o hb q => ?_) hf⟩
    exact f c o (fun q' => hb (by simp [q'])) (fun q' => hb (by simp [q'])) (fun q' => hb (by simp [q'])) (fun q' => hb (by simp [q'])) q
  self := fun A i s Q E st h => wpAny_pyIter_zip st.1 h
def iZp (K : PySem.W.Frag) (ta : TA) : TI := fun σ H R => ta σ H fun vs H1 => ∃ (k j : Knd) (xs ys : List V), vs = [k.v, j.v] ∧ k.has K H1 xs ∧ j.has K H1 ys ∧ R (Itzp K k j) H1
theorem pi_zp {e e2 : Expr} {ta : TA} {p pos tpos : Pos} {elts : List Expr} {kk : Nat} (hg : Gl X "zip") (hm : X.mg "zip" = none) (ha : PA X [e, e2] ta)
    (hs : starEach [e, e2] X.env = (false, eval e X.env) :: starEach [e2] X.env := by rfl) (hpl : (backTo pos (starEach [e2] X.env)).any (·.1) = false := by rfl) : PI X (.Tuple elts kk tpos) (.Call (.Name "zip" p) [e, e2] [] pos) (iZp X.K ta) := by
  refine ⟨fun pins s σ H R I h => Call_ (ld_blt I hg hm PyProof.Rows.boot_zip (PyProof.Rows.callWith_type1 (thn (ha.run pos pins s σ H _ I h) ?_) hs hpl))⟩
  rintro us s1 ⟨vs, H1, I1, r1, k, j, xs, ys, rfl, hk, hj, q⟩
  cases r1 with
  | cons r rr =>
    cases rr with
    | cons r' rr =>
      cases rr
      obtain ⟨o1, P1, B1, b1, st1, lt1⟩ := Knd.begins I1 hk r
      obtain ⟨o2, P2, B2, b2, st2, lt2⟩ := Knd.begins I1 hj r'
      refine zip_begins2 B1 B2 b1 b2 fun h' hz hTI hTO g1 g2 hsz f => wpAny_pyIter_zip hz ?_
      have I2 : Inv X pins σ H1 { s1 with heap := h' } := I1.kept (t' := s1.toks) f
      have nin1 : ∀ n, s1.heap.objs.size ≤ n → n ∉ k.more := fun n l z => absurd (lt1 n z) (Nat.not_lt.mpr l)
      have nin2 : ∀ n, s1.heap.objs.size ≤ n → n ∉ j.more := fun n l z => absurd (lt2 n z) (Nat.not_lt.mpr l)
      refine ⟨s1.heap.objs.size + 4, [s1.heap.objs.size + 4, s1.heap.objs.size + 2, s1.heap.objs.size + 3, s1.heap.objs.size, s1.heap.objs.size + 1], _, _, H1, rfl, I2, turn_zp (k := k) (j := j) (zip_sep2 lt1 lt2) (nin1 _ (Nat.le_refl _)) (nin2 _ (Nat.le_succ _)), ⟨hz, hTI, ⟨_, _, hTO⟩, st1 _ _ g1, st2 _ _ g2⟩, fun c hcm => ?_, q⟩
      have q : c = s1.heap.objs.size + 4 ∨ c = s1.heap.objs.size + 2 ∨ c = s1.heap.objs.size + 3 ∨ c = s1.heap.objs.size ∨ c = s1.heap.objs.size + 1 := by simpa using hcm
      have hle : s1.heap.objs.size ≤ c := by
        rcases q with q | q | q | q | q
        · rw [q]; exact Nat.le_add_right _ _
        · rw [q]; exact Nat.le_add_right _ _
        · rw [q]; exact Nat.le_add_right _ _
        · rw [q]; exact Nat.le_refl _
        · rw [q]; exact Nat.le_add_right _ _
      exact I1.fpOk hle (I1.hok.fresh hle)
end
end G

set_option Elab.async false
set_option linter.all false
set_option maxRecDepth 100000
set_option maxHeartbeats 4000000
/-! G16: the evaluators of enumerate and zip. -/
namespace G
open PySem PySem.Spec PyProof.Rows L2
def chW (z : Str) : List W := z.cps.toList.map fun c => W.val (.str ⟨#[c]⟩)
def seqW (x : W) (S : Hs) : Option (List W) := match x with
  | .val (.str z) => some (chW z)
  | x => (look x S).map (·.2)
def nxEn (x : W) (i : Nat) (S : Hs) : Nxt := match seqW x S with
  | some ws => (match ws[i]? with
    | some u => .item true [.val (.int (i : Nat)), u]
    | none => if i = ws.length then .stop else .no)
  | none => .no
def nxZp (x y : W) (i : Nat) (S : Hs) : Nxt := match seqW x S, seqW y S with
  | some ws, some us => (match ws[i]?, us[i]? with
    | some a, some b => .item true [a, b]
    | _, _ => if i ≤ ws.length ∧ i ≤ us.length ∧ (i = ws.length ∨ i = us.length) then .stop else .no)
  | _, _ => .no
def eiEn (a : Ea) : Ei := fun ρ S => (a ρ S).bind fun xs S1 => match xs with
  | [x] => (match seqW x S1 with
    | some ws => .ok ⟨ws.length, nxEn x⟩ S1
    | none => .no)
  | _ => .no
def eiZp (a : Ea) : Ei := fun ρ S => (a ρ S).bind fun xs S1 => match xs with
  | [x, y] => (match seqW x S1, seqW y S1 with
    | some ws, some _ => .ok ⟨ws.length, nxZp x y⟩ S1
    | _, _ => .no)
  | _ => .no
section
variable {K : PySem.W.Frag} {H0 H A B : Hp} {m n : Mp} {S : Hs} {ρ : Env} {σ : L2.St}
theorem chW_rel (z : Str) : RWs K H0 m (chW z) (chV z) := by
  unfold chW chV
  generalize z.cps.toList = l
  induction l with
  | nil => exact .nil
  | cons c l ih => exact .cons (RD.str _) ih
/-- over what x's iterator stands -/
theorem seq_knd {x : W} {v : V} {ws : List W} (rl : Rl K H0 H m S) (r : RW K H0 m x v) (e : seqW x S = some ws) :
    ∃ k : Knd, v = k.v ∧ ∀ (A G : Hp) (n : Mp) (S' : Hs) (us : List W), Rl K A G n S' → RW K A n x v → seqW x S' = some us → ∃ xs, k.has K G xs ∧ RWs K A n us xs := by
  unfold seqW at e
  split at e
  · rename_i z
    cases r
    exact ⟨.s z, rfl, fun A G n S' us rl' r' e' => by cases e'; exact ⟨_, rfl, chW_rel z⟩⟩
  · rename_i hx
    cases q : look x S with
    | none => rw [q] at e; cases e
    | some p =>
      obtain ⟨kd, ws'⟩ := p
      obtain ⟨a, vs, L⟩ := look_ok q rl r
      have ev := L.eq
      subst ev
      have go : ∀ (A G : Hp) (n : Mp) (S' : Hs) (us : List W), Rl K A G n S' → RW K A n x (.ref a) → seqW x S' = some us → ∃ (k : _) (ys : List V), look x S' = some (k, us) ∧ RWs K A n us ys ∧ (isT x = true → SqT K G a ys) ∧ (isT x = false → SqL K G a ys) := by
        intro A G n S' us rl' r' e'
        unfold seqW at e'
        split at e'
        · rename_i z; exact absurd rfl (hx z)
        · cases q2 : look x S' with
          | none => rw [q2] at e'; cases e'
          | some p2 =>
            obtain ⟨kd2, us2⟩ := p2
            rw [q2] at e'
            cases e'
            obtain ⟨a2, ys, L2⟩ := look_ok q2 rl' r'
            have z := L2.eq
            cases z
            refine ⟨kd2, ys, rfl, L2.rel, fun t => ?_, fun t => ?_⟩
            · unfold isT at t
              split at t
              · unfold look at q2
                cases q2
                exact L2.t rfl
              · cases t
            · cases kd2 with
              | l => exact Evl.sq_of (L2.l rfl)
              | s => exact L2.s rfl
              | t =>
                unfold look at q2
                split at q2
                · cases q2
                · cases t
                · cases q2
                · split at q2 <;> cases q2
                · cases q2
      cases t : isT x with
      | true => exact ⟨.t a, rfl, fun A G n S' us rl' r' e' => by obtain ⟨_, ys, _, h2, h3, _⟩ := go A G n S' us rl' r' e'; exact ⟨ys, h3 t, h2⟩⟩
      | false => exact ⟨.l a, rfl, fun A G n S' us rl' r' e' => by obtain ⟨_, ys, _, h2, _, h3⟩ := go A G n S' us rl' r' e'; exact ⟨ys, h3 t, h2⟩⟩
theorem at_none {α : Type} {xs : List α} {i : Nat} (e : xs[i]? = none) : xs.length ≤ i := by
  rcases Nat.lt_or_ge i xs.length with q | q
  · rw [List.getElem?_eq_getElem q] at e; cases e
  · exact q
theorem si_en {cw : Wc} {ta : TA} {a : Ea} (ha : SA K cw ta a) : SI K cw (iEn K ta) (eiEn a) := fun ρ S σ H0 H m Rk φ rl re h =>
  ha ρ S σ H0 H m _ φ rl re (h.bind fun xs S1 A B n vs _ xt rl1 r1 h1 => by
    split at h1
    · rename_i x _
      cases e : seqW x S1 with
      | none => rw [e] at h1; exact h1.elim
      | some ws =>
        rw [e] at h1
        cases r1 with
        | @cons _ v _ _ rx r =>
          cases r
          obtain ⟨k, ev, kk⟩ := seq_knd rl1 rx e
          subst ev
          obtain ⟨ys, hy, _⟩ := kk A B n S1 ws rl1 rx e
          refine ⟨k, ys, rfl, hy, h1.now rl1 ?_⟩
          intro A2 G n2 S2 ex mm rl2 i
          dsimp only
          unfold nxEn
          cases e2 : seqW x S2 with
          | none => trivial
          | some us =>
            obtain ⟨zs, hz, rz⟩ := kk A2 G n2 S2 us rl2 (rx.mono ex mm) e2
            dsimp only
            cases e3 : us[i]? with
            | none =>
              dsimp only
              by_cases q : i = us.length
              · rw [if_pos q]; exact ⟨zs, hz, by rw [← rz.len]; exact q.symm⟩
              · rw [if_neg q]; trivial
            | some u =>
              dsimp only
              obtain ⟨vu, e4, r4⟩ := rz.get e3
              refine ⟨⟨zs, vu, hz, e4⟩, fun x' H' y => ?_⟩
              obtain ⟨T, x'', rfl, hT, rfl, y⟩ := y
              have z := y zs hz
              rw [e4] at z; cases z
              obtain ⟨x2, r2⟩ := rl2.new (o := .tup [.int (i : Nat), vu]) hT
              refine ⟨_, x2, r2, ?_⟩
              unfold ItemRel
              rw [if_pos rfl]
              exact ⟨T, _, rfl, .inl (.inl upd_same), .cons (show RW K _ n2 (.val (.int (i : Nat))) _ from RD.int _) (.cons (r4.mono x2.h0 x2.mm) .nil)⟩
    · exact h1.elim)
theorem si_zp {cw : Wc} {ta : TA} {a : Ea} (ha : SA K cw ta a) : SI K cw (iZp K ta) (eiZp a) := fun ρ S σ H0 H m Rk φ rl re h =>
  ha ρ S σ H0 H m _ φ rl re (h.bind fun xs S1 A B n vs _ xt rl1 r1 h1 => by
    split at h1
    · rename_i x x' _
      cases e : seqW x S1 with
      | none => rw [e] at h1; exact h1.elim
      | some ws =>
        cases e' : seqW x' S1 with
        | none => rw [e, e'] at h1; exact h1.elim
        | some ws' =>
          rw [e, e'] at h1
          cases r1 with
          | @cons _ v _ _ rx r =>
            cases r with
            | @cons _ v' _ _ rx' r =>
              cases r
              obtain ⟨k, ev, kk⟩ := seq_knd rl1 rx e
              obtain ⟨j, ev', kj⟩ := seq_knd rl1 rx' e'
              subst ev ev'
              obtain ⟨ys, hy, _⟩ := kk A B n S1 ws rl1 rx e
              obtain ⟨ys', hy', _⟩ := kj A B n S1 ws' rl1 rx' e'
              refine ⟨k, j, ys, ys', rfl, hy, hy', h1.now rl1 ?_⟩
              intro A2 G n2 S2 ex mm rl2 i
              dsimp only
              unfold nxZp
              cases e2 : seqW x S2 with
              | none => trivial
              | some us =>
                cases e2' : seqW x' S2 with
                | none => trivial
                | some us' =>
                  obtain ⟨zs, hz, rz⟩ := kk A2 G n2 S2 us rl2 (rx.mono ex mm) e2
                  obtain ⟨zs', hz', rz'⟩ := kj A2 G n2 S2 us' rl2 (rx'.mono ex mm) e2'
                  have l := rz.len
                  have l' := rz'.len
                  have stop : ∀ {p : Prop} [Decidable p], (p → i ≤ us.length ∧ i ≤ us'.length ∧ (i = us.length ∨ i = us'.length)) → (match (if p then Nxt.stop else Nxt.no) with
                    | .no => True
                    | .stop => (Itzp K k j).stop i G
                    | .item row ws => (Itzp K k j).go i G ∧ ∀ x H', (Itzp K k j).yld i G x H' → ∃ A', Xt A2 G n2 A' H' n2 ∧ Rl K A' H' n2 S2 ∧ ItemRel K A' n2 row ws x) := by
                    intro p _ q
                    by_cases c : p
                    · rw [if_pos c]
                      obtain ⟨q1, q2, q3⟩ := q c
                      exact ⟨zs, zs', hz, hz', by omega, by omega, by omega⟩
                    · rw [if_neg c]; trivial
                  dsimp only
                  cases e3 : us[i]? with
                  | none => exact stop fun q => q
                  | some u =>
                    cases e3' : us'[i]? with
                    | none => exact stop fun q => q
                    | some u' =>
                      dsimp only
                      obtain ⟨vu, e4, r4⟩ := rz.get e3
                      obtain ⟨vu', e4', r4'⟩ := rz'.get e3'
                      refine ⟨⟨zs, zs', vu, vu', hz, hz', e4, e4'⟩, fun x' H' y => ?_⟩
                      obtain ⟨T, x'', y'', rfl, hT, rfl, y, y'⟩ := y
                      have z := y zs hz
                      rw [e4] at z; cases z
                      have z' := y' zs' hz'
                      rw [e4'] at z'; cases z'
                      obtain ⟨x2, r2⟩ := rl2.new (o := .tup [vu, vu']) hT
                      refine ⟨_, x2, r2, ?_⟩
                      unfold ItemRel
                      rw [if_pos rfl]
                      exact ⟨T, _, rfl, .inl (.inl upd_same), .cons (r4.mono x2.h0 x2.mm) (.cons (r4'.mono x2.h0 x2.mm) .nil)⟩
    · exact h1.elim)
end
end G

set_option Elab.async false
set_option linter.all false
set_option maxRecDepth 100000
set_option maxHeartbeats 2000000
/-! G17: what the head tells: any tests on the written part, defs at any place. -/
namespace G
open PySem PySem.Spec PyProof.Rows L2
/-! ### defs at any place -/
structure DefT where
  at_ : PySem.W.Frag → Addr
  name : Str
  qual : Str
  params : Arguments
  body : List Stmt
  scope : Scope
  dfl : List He.Dv := []
  kwd : List (Str × He.Dv) := []
abbrev SigT : Type := Option (Str × Str × Arguments × FuncBody × Scope × Addr × List (Str × Addr) × Addr)
def sigAt (K : PySem.W.Frag) (a : Addr) : SigT := match K.lookup a with
  | some ⟨_, _, .func fd, _⟩ => some (fd.name, fd.qualname, fd.params, fd.body, fd.scope, fd.globals, fd.closure, fd.builtins)
  | _ => none
def DefT.sig (d : DefT) : SigT := some (d.name, d.qual, d.params, .stmts d.body, d.scope, mainGlobals, [], builtinsNs)
def DefT.dvs (d : DefT) (K : PySem.W.Frag) : List V := d.dfl.map (He.Dv.v K)
def DefT.kws (d : DefT) (K : PySem.W.Frag) : List (Str × V) := d.kwd.map fun q => (q.1, q.2.v K)
def DefT.good (d : DefT) (K : PySem.W.Frag) : Bool := PySem.W.keepIn K (.ref (d.at_ K)) && match K.lookup (d.at_ K) with
  | some ⟨_, _, .func fd, _⟩ => PySem.W.codeIn K fd.code d.qual && (He.dflB K fd.defaults (d.dvs K) && He.kwdB K fd.kwdefaults (d.kws K))
  | _ => false
theorem two {a b : Bool} (h : (a && b) = true) : a = true ∧ b = true := Bool.and_eq_true_iff.mp h
theorem DefT.fun_ {K : PySem.W.Frag} {d : DefT} (e : sigAt K (d.at_ K) = d.sig) (c : d.good K = true) : ∃ fd, FunD K d.name d.qual d.params d.body d.scope (d.dvs K) (d.kws K) (d.at_ K) fd := by
  obtain ⟨kp, c⟩ := two c
  unfold sigAt at e
  cases q : K.lookup (d.at_ K) with
  | none => rw [q] at c; cases c
  | some o =>
    obtain ⟨oc, od, dt, osl⟩ := o
    rw [q] at c e
    cases dt with
    | func fd =>
      obtain ⟨a1, a2, a3, a4, a5, a6, a7, a8, a9, a10, a11, a12, a13, a14, a15⟩ := fd
      have z : (some (a1, a2, a3, a4, a5, a6, a7, a15) : SigT) = some (d.name, d.qual, d.params, .stmts d.body, d.scope, mainGlobals, [], builtinsNs) := e
      simp only [Option.some.injEq, Prod.mk.injEq] at z
      obtain ⟨z1, z2, z3, z4, z5, z6, z7, z8⟩ := z
      subst z1 z2 z3 z4 z5 z6 z7 z8
      obtain ⟨c1, c2⟩ := two c
      obtain ⟨c2, c3⟩ := two c2
      exact ⟨_, ⟨oc, od, a8, a9, a10, a11, a12, a13, a14, osl, rfl, q, c1, He.dflB_ok c2, He.kwdB_ok c3⟩, kp⟩
    | _ => cases c
/-! ### the Hook -/
abbrev Tst := PySem.W.Frag → Bool
abbrev AlT : Type := Bool × List SigT
def seeT (ts : List Tst) (fn : List DefT) (K : PySem.W.Frag) : AlT := ((ts.all fun t => t K) && fn.all fun d => d.good K, fn.map fun d => sigAt K (d.at_ K))
def dueT (fn : List DefT) : AlT := (true, fn.map DefT.sig)
def Says (ts : List Tst) (fn : List DefT) (K : PySem.W.Frag) : Prop := seeT ts fn K = dueT fn
def seeG (n : Nat) (ts : List Tst) (fn : List DefT) (g : Addr → Option Obj) : AlT := seeT ts fn (He.frG g (cStatics :: He.asD g n))
def hookT (n : Nat) (ts : List Tst) (fn : List DefT) : PySem.W.Hook where
  α := AlT
  obs := fun s => seeG n ts fn s.heap.get?
  val := fun _ => dueT fn
  says := fun _ h => ∃ K : PySem.W.Frag, K.In h ∧ Says ts fn K
  of := fun _ _ e => ⟨_, He.frG_in, e⟩
  keeps := fun _ _ _ ⟨K, hK, c⟩ k => ⟨K, PySem.W.Frag.In.keeps hK k, c⟩
theorem seeG_eq {n : Nat} {ts : List Tst} {fn : List DefT} {g : Addr → Option Obj} {s : Shared} (h : ∀ a, g a = s.heap.get? a) : seeG n ts fn g = (hookT n ts fn).obs s := by
  have e : g = s.heap.get? := funext h
  rw [e]; rfl
section
variable {ts : List Tst} {fn : List DefT} {K : PySem.W.Frag}
theorem Says.test (c : Says ts fn K) (i : Nat) {t : Tst} (h : ts[i]? = some t := by rfl) : t K = true := by
  have z := (two (show ((ts.all fun t => t K) && fn.all fun d => d.good K) = true from congrArg (fun z : AlT => z.1) c)).1
  exact List.all_eq_true.mp z t (List.mem_of_getElem? h)
theorem Says.def_ (c : Says ts fn K) (i : Nat) {d : DefT} (h : fn[i]? = some d := by rfl) : ∃ fd, FunD K d.name d.qual d.params d.body d.scope (d.dvs K) (d.kws K) (d.at_ K) fd := by
  have z := (two (show ((ts.all fun t => t K) && fn.all fun d => d.good K) = true from congrArg (fun z : AlT => z.1) c)).2
  have e : fn.map (fun d => sigAt K (d.at_ K)) = fn.map DefT.sig := congrArg (fun z : AlT => z.2) c
  have e2 : (fn.map fun d => sigAt K (d.at_ K))[i]? = (fn.map DefT.sig)[i]? := by rw [e]
  rw [List.getElem?_map, List.getElem?_map, h] at e2
  exact DefT.fun_ (Option.some.inj e2) (List.all_eq_true.mp z d (List.mem_of_getElem? h))
end
/-! ### places -/
def gAt (x : Str) (K : PySem.W.Frag) : Addr := He.ga K x
def mAt (c m : Str) (K : PySem.W.Frag) : Addr := He.ma K (He.ga K c) m
def recG (K : PySem.W.Frag) (p : Addr) (T : String) : Addr := match PySem.W.recIn K p T with
  | some (.ref g :: _) => g
  | _ => 0
/-- a property's getter -/
def pAt (c m : Str) (K : PySem.W.Frag) : Addr := recG K (mAt c m K) "property"
def cmR (c m : Str) (K : PySem.W.Frag) : Addr := match PySem.W.findCls K (.ref (He.ga K c)) (.type "type") m with
  | some (.get _ (.ref p) _ _) => p
  | _ => 0
/-- a classmethod's def -/
def cAt (c m : Str) (K : PySem.W.Frag) : Addr := recG K (cmR c m K) "classmethod"
/-! ### tests and what they tell -/
def recB (K : PySem.W.Frag) (p : Addr) (T : String) : Bool := match PySem.W.recIn K p T with
  | some (.ref _ :: _) => true
  | _ => false
theorem recB_ok {K : PySem.W.Frag} {p : Addr} {T : String} (h : recB K p T = true) : ∃ rest, PySem.W.recIn K p T = some (.ref (recG K p T) :: rest) := by
  unfold recB at h
  unfold recG
  split at h
  · rename_i g rest e
    rw [e]
    exact ⟨rest, rfl⟩
  · cases h
def propB (c f : Str) : Tst := fun K => He.eqO (PySem.W.findIn K (.ref (He.ga K c)) f) (some (some (.ref (mAt c f K)))) && (He.eqO (PySem.W.specialIn K (.ref (mAt c f K)) "__get__") (some (some (.builtin "property.__get__"))) &&
  (decide (PySem.W.takesIn K (.ref (mAt c f K)) = some true) && recB K (mAt c f K) "property"))
theorem propB_ok {K : PySem.W.Frag} {c f : Str} (h : propB c f K = true) : PropOf K (ca K c) f (mAt c f K) (pAt c f K) := by
  obtain ⟨h1, h⟩ := two h
  obtain ⟨h2, h⟩ := two h
  obtain ⟨h3, h4⟩ := two h
  exact ⟨He.eqO_ok h1, He.eqO_ok h2, of_decide_eq_true h3, recB_ok h4⟩
def creadB (c : Str) : Tst := fun K => PySem.W.readsIn K (He.ga K c) (.type "type") && He.eqO (PySem.W.specialIn K (.ref (He.ga K c)) "__getattribute__") (some (some (.builtin "type.__getattribute__")))
theorem creadB_ok {K : PySem.W.Frag} {c : Str} (h : creadB c K = true) : ClX.CRead K (ca K c) (.type "type") := by
  obtain ⟨h1, h2⟩ := two h
  exact ⟨h1, He.eqO_ok h2⟩
def cmetB (c m : Str) : Tst := fun K => (match PySem.W.findCls K (.ref (He.ga K c)) (.type "type") m with
  | some (.get (.builtin n) (.ref _) .none (.ref C)) => decide (n = "classmethod.__get__") && decide (C = He.ga K c)
  | _ => false) && (recB K (cmR c m K) "classmethod" && PySem.W.fnIn K (cAt c m K))
theorem cmetB_ok {K : PySem.W.Frag} {c m : Str} (h : cmetB c m K = true) : ClX.CMet K (ca K c) (.type "type") m (cmR c m K) (cAt c m K) := by
  obtain ⟨h1, h⟩ := two h
  obtain ⟨h2, h3⟩ := two h
  refine ⟨?_, recB_ok h2, h3⟩
  unfold cmR
  split at h1
  · rename_i n p C e
    obtain ⟨e1, e2⟩ := two h1
    have e1 := of_decide_eq_true e1
    have e2 := of_decide_eq_true e2
    subst e1 e2
    rw [e]
  · cases h1
def insB (c : Str) : Tst := fun K => (He.Fa.cls c).ok K && (He.eqO (PySem.W.findIn K (.ref (He.ga K c)) "__class__") (some (some (.builtin "object.__class__"))) && (He.eqO (PySem.W.specialIn K (.builtin "object.__class__") "__get__") (some (some (.builtin "getset_descriptor.__get__"))) &&
  (decide (PySem.W.takesIn K (.builtin "object.__class__") = some true) && decide (PySem.W.mroIn K (He.ga K c) (.type "object") = some true))))
theorem insB_ok {K : PySem.W.Frag} {c : Str} (h : insB c K = true) : InsOk K (ca K c) := by
  obtain ⟨h1, h⟩ := two h
  obtain ⟨h2, h⟩ := two h
  obtain ⟨h3, h⟩ := two h
  obtain ⟨h4, h5⟩ := two h
  exact ⟨He.cls_ok h1, He.eqO_ok h2, He.eqO_ok h3, of_decide_eq_true h4, of_decide_eq_true h5⟩
def eqB (c : Str) : Tst := fun K => He.eqO (PySem.W.findIn K (.ref (He.ga K c)) "__eq__") (some (some (.ref (mAt c "__eq__" K)))) && (PySem.W.isFn K (.ref (mAt c "__eq__" K)) && (He.eqO (PySem.W.findIn K (.ref (He.ga K c)) "__ne__") (some (some (.builtin "object.__ne__"))) &&
  decide (PySem.W.mroIn K (He.ga K c) (.type "object") = some true)))
theorem eqB_ok {K : PySem.W.Frag} {c : Str} (h : eqB c K = true) : EqOwn K (ca K c) (mAt c "__eq__" K) := by
  obtain ⟨h1, h⟩ := two h
  obtain ⟨h2, h⟩ := two h
  obtain ⟨h3, h4⟩ := two h
  exact ⟨He.eqO_ok h1, h2, He.eqO_ok h3, of_decide_eq_true h4⟩
/-- __getitem__, a def of the class -/
def itemB (c : Str) : Tst := fun K => He.eqO (PySem.W.findIn K (.ref (He.ga K c)) "__getitem__") (some (some (.ref (mAt c "__getitem__" K)))) && (PySem.W.fnIn K (mAt c "__getitem__" K) && PySem.W.isFn K (.ref (mAt c "__getitem__" K)))
theorem itemB_ok {K : PySem.W.Frag} {c : Str} (h : itemB c K = true) : PySem.W.findIn K (.ref (ca K c)) "__getitem__" = some (some (.ref (mAt c "__getitem__" K))) ∧ PySem.W.fnIn K (mAt c "__getitem__" K) = true ∧ PySem.W.isFn K (.ref (mAt c "__getitem__" K)) = true := by
  obtain ⟨h1, h⟩ := two h
  obtain ⟨h2, h3⟩ := two h
  exact ⟨He.eqO_ok h1, h2, h3⟩
/-- an exception class of one's own below Exception, with an __init__ of its own or without -/
def xcObj (C : Addr) : Option Obj → Bool
  | some ⟨.type t, _, .cls ⟨_, _, .ref C' :: bm, _, _, true, _, _, _, _, false⟩, sl⟩ => (match sl.toList with
    | [_, _, _, _, some (.builtin n), _] => decide (t = "type") && (decide (C' = C) && (decide (n = "Exception.__new__") && PySem.GX.refsX bm))
    | _ => false)
  | _ => false
def xcB (c : Str) : Tst := fun K => xcObj (He.ga K c) (K.lookup (He.ga K c)) && (He.eqO (PySem.W.findIn K (.ref (He.ga K c)) "__setattr__") (some (some (.builtin "object.__setattr__"))) && (decide (PySem.W.subIn K (.ref (He.ga K c)) (.type "BaseException") = some true) &&
  (decide (PySem.W.typeIn K (.ref (He.ga K c)) = some (.type "type")) && PySem.W.keepIn K (.ref (He.ga K c)))))
theorem xcB_ok {K : PySem.W.Frag} {c : Str} (h : xcB c K = true) : ExcC K (ca K c) := by
  obtain ⟨h1, h⟩ := two h
  obtain ⟨h2, h⟩ := two h
  obtain ⟨h3, h⟩ := two h
  obtain ⟨h4, h5⟩ := two h
  refine ⟨?_, He.eqO_ok h2, of_decide_eq_true h3, of_decide_eq_true h4, h5⟩
  cases q : K.lookup (He.ga K c) with
  | none => rw [q] at h1; cases h1
  | some o =>
    rw [q] at h1
    unfold xcObj at h1
    split at h1
    · rename_i t dd nm bs C' bm N qn sn sub ab col sl e
      split at h1
      · rename_i k0 k1 k2 k3 n k5 e2
        obtain ⟨z1, h1⟩ := two h1
        obtain ⟨z2, h1⟩ := two h1
        obtain ⟨z3, z4⟩ := two h1
        have z1 := of_decide_eq_true z1
        have z2 := of_decide_eq_true z2
        have z3 := of_decide_eq_true z3
        subst z1 z2 z3
        have z5 : sl = #[k0, k1, k2, k3, some (.builtin "Exception.__new__"), k5] := by
          obtain ⟨l⟩ := sl
          simp only at e2
          rw [e2]
        subst z5
        have e3 := Option.some.inj e
        subst e3
        exact ⟨_, _, _, _, _, _, _, _, _, _, _, _, _, _, _, rfl, z4⟩
      · cases h1
    · cases h1
def xisB (c : Str) : Tst := fun K => (PySem.W.clsIn K (He.ga K c)).isSome && (xfB K (He.ga K c) && (He.eqO (PySem.W.findIn K (.ref (He.ga K c)) "__class__") (some (some (.builtin "object.__class__"))) && (He.eqO (PySem.W.specialIn K (.builtin "object.__class__") "__get__") (some (some (.builtin "getset_descriptor.__get__"))) &&
  (decide (PySem.W.takesIn K (.builtin "object.__class__") = some true) && decide (PySem.W.mroIn K (He.ga K c) (.type "object") = some true)))))
theorem xisB_ok {K : PySem.W.Frag} {c : Str} (h : xisB c K = true) : XisC K (ca K c) ∧ XfC K (ca K c) := by
  obtain ⟨h1, h⟩ := two h
  obtain ⟨h2, h⟩ := two h
  obtain ⟨h3, h⟩ := two h
  obtain ⟨h4, h⟩ := two h
  obtain ⟨h5, h6⟩ := two h
  have x := xfB_ok h2
  exact ⟨⟨h1, x.ga, x.gg, x.exC, He.eqO_ok h3, He.eqO_ok h4, of_decide_eq_true h5, of_decide_eq_true h6⟩, x⟩
/-- kitOne's answers for a table of types -/
def Isq.tags (T : Isq) : List (Tg × Bool) := T.b.map (fun p => (.b p.1, p.2)) ++ T.o.map fun p => (.o p.1, p.2)
theorem Isq.mem {T : Isq} {t : Tg} {b : Bool} (h : T.ans t = some b) : (t, b) ∈ T.tags := by
  have look : ∀ {α : Type} [BEq α] [LawfulBEq α] {l : List (α × Bool)} {x : α}, l.lookup x = some b → (x, b) ∈ l := by
    intro α _ _ l x
    induction l with
    | nil => intro e; cases e
    | cons p l ih =>
      obtain ⟨y, c⟩ := p
      intro e
      rw [List.lookup_cons] at e
      split at e
      · rename_i q
        rw [beq_iff_eq.mp q]
        cases e
        exact List.mem_cons_self
      · exact List.mem_cons_of_mem _ (ih e)
  cases t with
  | b n => exact List.mem_append_left _ (List.mem_map.mpr ⟨(n, b), look h, rfl⟩)
  | o c => exact List.mem_append_right _ (List.mem_map.mpr ⟨(c, b), look h, rfl⟩)
/-- own classes that the table names are as isinstance asks -/
def ownB (T : Isq) : Tst := fun K => T.o.all fun p => insB p.1 K
theorem ownB_ok {K : PySem.W.Frag} {T : Isq} (h : ownB T K = true) {t : Tg} {b : Bool} (e : T.ans t = some b) : OwnT K t := by
  cases t with
  | b n => trivial
  | o c =>
    have m := Isq.mem e
    rcases List.mem_append.mp m with m | m
    · obtain ⟨p, _, q⟩ := List.mem_map.mp m; cases q
    · obtain ⟨p, m2, q⟩ := List.mem_map.mp m
      cases q
      exact insB_ok (List.all_eq_true.mp h p m2)
def isB (u : PySem.W.Frag → Value) (T : Isq) : Tst := fun K => ownB T K && T.tags.all fun p => decide (PySem.W.kitOne K (tgV K p.1) (u K) = some p.2)
theorem isB_ty {K : PySem.W.Frag} {n : String} {T : Isq} (h : isB (fun _ => .type n) T K = true) : IsOk K (.ty n) T := by
  obtain ⟨h1, h2⟩ := two h
  exact ⟨.type n, .ty n, fun t b e => ⟨of_decide_eq_true (List.all_eq_true.mp h2 (t, b) (Isq.mem e)), ownB_ok h1 e⟩⟩
theorem isB_own {K : PySem.W.Frag} {c : Str} {T : Isq} (h : isB (fun K => .ref (He.ga K c)) T K = true) : IsOk K (.ref (ca K c)) T := by
  obtain ⟨h1, h2⟩ := two h
  exact ⟨.ref (ca K c), .own _, fun t b e => ⟨of_decide_eq_true (List.all_eq_true.mp h2 (t, b) (Isq.mem e)), ownB_ok h1 e⟩⟩
def isTB (ns : List String) (T : Isq) : Tst := fun K => ownB T K && T.tags.all fun p => decide (PySem.W.kitAny K (tgV K p.1) (ns.map .type) = some p.2)
theorem isTB_ok {K : PySem.W.Frag} {ns : List String} {T : Isq} (h : isTB ns T K = true) : IsOkT K (ns.map .ty) T := by
  obtain ⟨h1, h2⟩ := two h
  refine ⟨ns.map .type, ?_, fun t b e => ⟨of_decide_eq_true (List.all_eq_true.mp h2 (t, b) (Isq.mem e)), ownB_ok h1 e⟩⟩
  clear h h1 h2
  induction ns with
  | nil => exact .nil
  | cons n ns ih => exact .cons (.ty n) ih
def nfB (c : Str) (T : Isq) : Tst := fun K => ownB T K && T.tags.all fun p => PySem.W.notFirst K (He.ga K c) (tgV K p.1)
theorem nfB_ok {K : PySem.W.Frag} {c : Str} {T : Isq} (h : nfB c T K = true) : NotFirst K c T := by
  obtain ⟨h1, h2⟩ := two h
  exact fun t e => ⟨List.all_eq_true.mp h2 (t, true) (Isq.mem e), ownB_ok h1 e⟩
/-- a clause's table -/
def exmB (tbl : List (Str × Bool)) (c : Str) : Tst := fun K => tbl.all fun p => decide (PySem.W.exmOne K (.ref (He.ga K p.1)) (.ref (He.ga K c)) = some p.2)
theorem look_mem {l : List (Str × Bool)} {x : Str} {b : Bool} (e : l.lookup x = some b) : (x, b) ∈ l := by
  induction l with
  | nil => cases e
  | cons p l ih =>
    obtain ⟨y, c⟩ := p
    rw [List.lookup_cons] at e
    split at e
    · rename_i q
      rw [beq_iff_eq.mp q]
      cases e
      exact List.mem_cons_self
    · exact List.mem_cons_of_mem _ (ih e)
theorem exmB_ok {K : PySem.W.Frag} {tbl : List (Str × Bool)} {c : Str} (h : exmB tbl c K = true) : ∀ x b, tbl.lookup x = some b → PySem.W.exmOne K (.ref (ca K x)) (.ref (ca K c)) = some b := fun x b e => of_decide_eq_true (List.all_eq_true.mp h (x, b) (look_mem e))
/-- isinstance of what was caught -/
def xkB (tbl : List (Str × Bool)) (c : Str) : Tst := fun K => tbl.all fun p => xisB p.1 K && decide (PySem.W.kitOne K (.ref (He.ga K p.1)) (.ref (He.ga K c)) = some p.2)
theorem xkB_ok {K : PySem.W.Frag} {tbl : List (Str × Bool)} {c : Str} (h : xkB tbl c K = true) : ∀ x b, tbl.lookup x = some b → PySem.W.kitOne K (.ref (ca K x)) (.ref (ca K c)) = some b ∧ XisC K (ca K x) := fun x b e => by
  obtain ⟨h1, h2⟩ := two (List.all_eq_true.mp h (x, b) (look_mem e))
  exact ⟨of_decide_eq_true h2, (xisB_ok h1).1⟩
/-- the i-th default of the def at f, the default of its keyword x, if they are objects -/
def dflA (f : Addr) (i : Nat) (K : PySem.W.Frag) : Addr := match K.lookup f with
  | some ⟨_, _, .func fd, _⟩ => (match fd.defaults with
    | .ref T => (match K.lookup T with
      | some ⟨_, _, .seq its _, _⟩ => (match its.toList[i]? with
        | some (.ref a) => a
        | _ => 0)
      | _ => 0)
    | _ => 0)
  | _ => 0
def kwdA (f : Addr) (x : Str) (K : PySem.W.Frag) : Addr := match K.lookup f with
  | some ⟨_, _, .func fd, _⟩ => (match fd.kwdefaults with
    | .ref T => (match PySem.W.nsIn K T x with
      | some (some (.ref a)) => a
      | _ => 0)
    | _ => 0)
  | _ => 0
/-- a tuple of plain items in the written part -/
def tupA (a : PySem.W.Frag → Addr) (vs : List V) : Tst := fun K => match K.lookup (a K) with
  | some ⟨.type c, _, .seq its _, _⟩ => decide (c = "tuple") && (decide (its.size ≤ sizeLine) && He.relAll vs its.toList)
  | _ => false
theorem tupA_ok {K : PySem.W.Frag} {a : PySem.W.Frag → Addr} {vs : List V} (h : tupA a vs K = true) (H : Hp) : SqT K H (a K) vs := by
  unfold tupA at h
  split at h
  · rename_i c od its n sl e
    obtain ⟨h1, h⟩ := two h
    obtain ⟨h2, h3⟩ := two h
    exact .inr ⟨_, its, n, e, congrArg Value.type (of_decide_eq_true h1), rfl, of_decide_eq_true h2, He.relAll_ok h3⟩
  · cases h
end G

set_option Elab.async false
set_option linter.all false
set_option maxRecDepth 100000
set_option maxHeartbeats 1000000
/-! G18: short words for the texts that a program prints. -/
namespace G
open PySem PySem.Spec PyProof.Rows L2
/-- a def with its promise; B: what its calls bind -/
structure Def (P : Program) (w : World) (K : PySem.W.Frag) (mg : Str → Option Value) (base : Heap) (k : Nat) (a : Addr) (ps : List Str) (sp : Sp) (B : FuncData → Prop) : Prop where
  ex : ∃ fd, FnOk P w K mg base (L2.CX P w) k a fd ps sp ∧ B fd ∧ PySem.W.keepIn K (.ref a) = true
/-- every parameter is given -/
abbrev All (K : PySem.W.Frag) (ps : List Str) : FuncData → Prop := fun fd => Binds K fd ps []
/-- .. or the last ones have these defaults -/
def Dfl (K : PySem.W.Frag) (ps : List Str) (dvs : List V) : FuncData → Prop := fun fd => Binds K fd ps [] ∧ ∃ ds, Vals dvs ds ∧ Binds K fd ps ds
/-- n values, then these keywords -/
def Kwd (K : PySem.W.Frag) (ps : List Str) (n : Nat) (ks : List Str) : FuncData → Prop := fun fd => ∃ g, KBn K fd ps n ks g fun vs zs => vs ++ zs
theorem b_isinstance : bootBuiltins "isinstance" = some (.builtin "isinstance") := by decide +kernel
theorem b_len : bootBuiltins "len" = some (.builtin "len") := by decide +kernel
theorem b_all : bootBuiltins "all" = some (.builtin "all") := by decide +kernel
theorem b_any : bootBuiltins "any" = some (.builtin "any") := by decide +kernel
theorem b_min : bootBuiltins "min" = some (.builtin "min") := by decide +kernel
theorem b_max : bootBuiltins "max" = some (.builtin "max") := by decide +kernel
theorem b_int : bootBuiltins "int" = some (.type "int") := by decide +kernel
theorem b_bool : bootBuiltins "bool" = some (.type "bool") := by decide +kernel
theorem b_str : bootBuiltins "str" = some (.type "str") := by decide +kernel
theorem b_list : bootBuiltins "list" = some (.type "list") := by decide +kernel
theorem b_tuple : bootBuiltins "tuple" = some (.type "tuple") := by decide +kernel
section
variable {P : Program} {w : World} {K : PySem.W.Frag} {mg : Str → Option Value} {base : Heap} {X : Cx}
theorem fnty {f : Addr} (h : PySem.W.isFn K (.ref f) = true) : PySem.W.typeIn K (.ref f) = some (.type "function") := beq_iff_eq.mp h
theorem pe_ty {x : Str} {n : String} {pos : Pos} (hg : Gl X x) (hm : X.mg x = none) (hv : bootBuiltins x = some (.type n)) (hn : x ≠ "__name__" := by decide) (hd : (x == ("__debug__" : Str)) = false := by decide) : PE X (.Name x pos) (tC (.ty n)) := pe_bltn hg hm hv rfl hn hd
theorem pe_cls {x : Str} {pos : Pos} (hg : Gl X x) (hm : X.mg x = some (.ref (ca X.K x))) (hd : (x == ("__debug__" : Str)) = false := by decide) : PE X (.Name x pos) (tC (.ref (ca X.K x))) := pe_glob hg hm rfl hd
theorem iop_minus : PIp X .Sub (rI0 fun i j => .int (i - j)) := iop_sub
abbrev rPlusI : R2 := fun x y H Q => rI0 (fun i j => .int (i + j)) x y H Q ∨ ∃ i j, x = .str i ∧ y = .str j ∧ i.length + j.length ≤ sizeLine ∧ Q (.str (i ++ j)) H
theorem iop_plus : PIp X .Add rPlusI := OpR.or iop_add iop_add_str
theorem iop_times : PIp X .Mult (rI CMul fun i j => .int (i * j)) := iop_mul
theorem passF {σ : L2.St} : PassesAt (L2.CX X.prog X.w) X σ (fun _ _ _ => False) := fun pins H s e s' I c => passL pins σ H s e s' I c
theorem fld1 {c f : Str} (h : Cls K (ca K c)) (n : NoAttr K (ca K c) f) : FldOk K [c] f := fun x hx => by
  have e : x = c := List.mem_singleton.mp hx
  subst e
  exact ⟨h, n⟩
theorem put1 {nn mm : Nat} : ∀ (H0 : Hp) (m : Mp) (ws zs : List W) (vs us : List V) (x : V), ws.length = nn → zs.length = mm → RWs K H0 m ws vs → RWs K H0 m zs us → ∃ ts, (x :: vs) ++ us = x :: ts ∧ RWs K H0 m (ws ++ zs) ts :=
  fun _ _ _ _ vs us _ _ _ r1 r2 => ⟨vs ++ us, rfl, RWs.app r1 r2⟩
end
def gAddI (x y : W) (S : Hs) : R W := match x, y with
  | .val (.int i), .val (.int j) => .ok (.val (.int (i + j))) S
  | .val (.str a), .val (.str b) => if a.length + b.length ≤ 16777216 then .ok (.val (.str (a ++ b))) S else .no
  | _, _ => .no
theorem o_addI {K : PySem.W.Frag} : O2 K rPlusI gAddI := by
  intro x y v u S H0 H m Q E rl rx ry h
  unfold gAddI at h
  split at h
  · cases rx; cases ry
    exact .inl ⟨_, _, rfl, rfl, h.now rl (RD.int _)⟩
  · rename_i a b
    by_cases l : a.length + b.length ≤ 16777216
    · rw [if_pos l] at h
      cases rx; cases ry
      exact .inr ⟨a, b, rfl, rfl, by rw [sizeLine_eq]; exact l, h.now rl (RD.str _)⟩
    · rw [if_neg l] at h; exact h.elim
  · exact h.elim
end G

set_option Elab.async false
set_option linter.all false
set_option maxRecDepth 100000
set_option maxHeartbeats 1000000
/-! G19: o[i] op= e. -/
namespace G
open PySem PySem.Spec PyProof.Rows L2
section
variable {X : Cx}
theorem get_seq : PGet X (rIx X.K) := by
  intro pins s σ H o i ov iv Q I ro ri h
  have big := line63
  rcases h with ⟨p, xs, k, z, rfl, rfl, hq, he, q⟩ | ⟨p, xs, k, z, rfl, rfl, hq, he, q⟩ | ⟨z, k, c, rfl, rfl, hz, he, q⟩
  · cases ro
    obtain ⟨t, rfl⟩ := ri
    obtain ⟨its, r, pl, hz⟩ := I.list hq
    obtain ⟨j, h1, h2, h3, h4, h5⟩ := atI_get he
    obtain ⟨w, ew, rw'⟩ := r.get h2
    have hl := r.length
    have fin : EP X pins σ Q w s := ⟨z, H, I, rw', q⟩
    by_cases h0 : 0 ≤ k
    · have hj : k.toNat = j := by
        rw [seqIndex_of h0 h5] at h1
        exact Option.some.inj h1
      exact wpAny_getItem_list pl.isList h0 (by omega) (by rw [hj]; simpa using ew) fin
    · have hj : (k + (its.toArray.size : Int)).toNat = j := by
        rw [seqIndex_neg (by omega) h4] at h1
        rw [List.size_toArray, ← hl]
        exact Option.some.inj h1
      exact wpAny_getItem_list_neg pl.isList (by omega) (by rw [List.size_toArray] <;> omega) (by omega) (by rw [hj]; simpa using ew) fin
  · cases ro
    obtain ⟨t, rfl⟩ := ri
    obtain ⟨its, r, pl, hz⟩ := I.tuple hq
    obtain ⟨j, h1, h2, h3, h4, h5⟩ := atI_get he
    obtain ⟨w, ew, rw'⟩ := r.get h2
    have hl := r.length
    have fin : EP X pins σ Q w s := ⟨z, H, I, rw', q⟩
    exact getItem_tuple (j := j) pl (by omega) (by omega) (by rw [List.size_toArray, ← hl]; exact h1) (by simpa using ew) fin
  · obtain ⟨t, rfl⟩ := ro
    obtain ⟨t', rfl⟩ := ri
    obtain ⟨j, h1, h2, h3, h4, h5⟩ := atI_get he
    have hl : z.cps.toList.length = z.length := by simp [Str.length]
    rw [hl] at h1 h4 h5
    exact getItem_str (c := c) (by rw [decide_eq_false (show ¬ k < -(2 ^ 63 : Int) by omega), decide_eq_false (show ¬ k ≥ 2 ^ 63 by omega), Bool.or_false]) (by rw [h1]; simpa using h2) ⟨.str ⟨#[c]⟩, H, I.tok _, ⟨_, rfl⟩, q⟩
end
end G

set_option Elab.async false
set_option linter.all false
set_option maxRecDepth 100000
set_option maxHeartbeats 0
namespace HT
open PySem PySem.Spec PyProof.Rows L2 G
def top (i : Nat) : Stmt := PySem.Challenge.pw_upsanddowns_k09_gains.main.body.getD i (.Pass ⟨0, 0, 0, 0⟩)
def d_BadNumber___init__ : DefT := ⟨mAt "BadNumber" "__init__", "__init__", "BadNumber.__init__", defArgs (inClass (top 3) 0), defBody (inClass (top 3) 0), defScope (inClass (top 3) 0), [], []⟩
def d_BadRank___init__ : DefT := ⟨mAt "BadRank" "__init__", "__init__", "BadRank.__init__", defArgs (inClass (top 4) 0), defBody (inClass (top 4) 0), defScope (inClass (top 4) 0), [], []⟩
def d_BadWord___init__ : DefT := ⟨mAt "BadWord" "__init__", "__init__", "BadWord.__init__", defArgs (inClass (top 5) 0), defBody (inClass (top 5) 0), defScope (inClass (top 5) 0), [], []⟩
def d_BadNumbers___init__ : DefT := ⟨mAt "BadNumbers" "__init__", "__init__", "BadNumbers.__init__", defArgs (inClass (top 6) 0), defBody (inClass (top 6) 0), defScope (inClass (top 6) 0), [], []⟩
def d_is_int : DefT := ⟨gAt "is_int", "is_int", "is_int", defArgs (top 8), defBody (top 8), defScope (top 8), [], []⟩
def d_check_number : DefT := ⟨gAt "check_number", "check_number", "check_number", defArgs (top 9), defBody (top 9), defScope (top 9), [], []⟩
def d_is_row : DefT := ⟨gAt "is_row", "is_row", "is_row", defArgs (top 11), defBody (top 11), defScope (top 11), [], []⟩
def d_is_row_of : DefT := ⟨gAt "is_row_of", "is_row_of", "is_row_of", defArgs (top 12), defBody (top 12), defScope (top 12), [], []⟩
def d_is_int_row : DefT := ⟨gAt "is_int_row", "is_int_row", "is_int_row", defArgs (top 13), defBody (top 13), defScope (top 13), [], []⟩
def d_is_number_pair : DefT := ⟨gAt "is_number_pair", "is_number_pair", "is_number_pair", defArgs (top 14), defBody (top 14), defScope (top 14), [], []⟩
def d_frozen : DefT := ⟨gAt "frozen", "frozen", "frozen", defArgs (top 15), defBody (top 15), defScope (top 15), [], []⟩
def d_check_any_rank : DefT := ⟨gAt "check_any_rank", "check_any_rank", "check_any_rank", defArgs (top 17), defBody (top 17), defScope (top 17), [], []⟩
def d_check_rank_from : DefT := ⟨gAt "check_rank_from", "check_rank_from", "check_rank_from", defArgs (top 18), defBody (top 18), defScope (top 18), [], []⟩
def d_check_word : DefT := ⟨gAt "check_word", "check_word", "check_word", defArgs (top 20), defBody (top 20), defScope (top 20), [], []⟩
def d_heights : DefT := ⟨gAt "heights", "heights", "heights", defArgs (top 21), defBody (top 21), defScope (top 21), [], []⟩
def d_told_pairs : DefT := ⟨gAt "told_pairs", "told_pairs", "told_pairs", defArgs (top 23), defBody (top 23), defScope (top 23), [], []⟩
def dfl_Numbers___init___k0 (K : PySem.W.Frag) : Addr := kwdA (mAt "Numbers" "__init__" K) "tail" K
def d_Numbers___init__ : DefT := ⟨mAt "Numbers" "__init__", "__init__", "Numbers.__init__", defArgs (inClass (top 24) 0), defBody (inClass (top 24) 0), defScope (inClass (top 24) 0), [], [("tail", .adr (dfl_Numbers___init___k0))]⟩
def d_Numbers_steady : DefT := ⟨cAt "Numbers" "steady", "steady", "Numbers.steady", defArgs (inClass (top 24) 1), defBody (inClass (top 24) 1), defScope (inClass (top 24) 1), [], []⟩
def d_Numbers_falling : DefT := ⟨cAt "Numbers" "falling", "falling", "Numbers.falling", defArgs (inClass (top 24) 2), defBody (inClass (top 24) 2), defScope (inClass (top 24) 2), [], []⟩
def d_Numbers___getitem__ : DefT := ⟨mAt "Numbers" "__getitem__", "__getitem__", "Numbers.__getitem__", defArgs (inClass (top 24) 3), defBody (inClass (top 24) 3), defScope (inClass (top 24) 3), [], []⟩
def d_Numbers___iter__ : DefT := ⟨mAt "Numbers" "__iter__", "__iter__", "Numbers.__iter__", defArgs (inClass (top 24) 4), defBody (inClass (top 24) 4), defScope (inClass (top 24) 4), [], []⟩
def d_Numbers___eq__ : DefT := ⟨mAt "Numbers" "__eq__", "__eq__", "Numbers.__eq__", defArgs (inClass (top 24) 5), defBody (inClass (top 24) 5), defScope (inClass (top 24) 5), [], []⟩
def d_Numbers_is_positive : DefT := ⟨pAt "Numbers" "is_positive", "is_positive", "Numbers.is_positive", defArgs (inClass (top 24) 6), defBody (inClass (top 24) 6), defScope (inClass (top 24) 6), [], []⟩
def d_Numbers_is_plain : DefT := ⟨pAt "Numbers" "is_plain", "is_plain", "Numbers.is_plain", defArgs (inClass (top 24) 7), defBody (inClass (top 24) 7), defScope (inClass (top 24) 7), [], []⟩
def d_Numbers_gain : DefT := ⟨mAt "Numbers" "gain", "gain", "Numbers.gain", defArgs (inClass (top 24) 8), defBody (inClass (top 24) 8), defScope (inClass (top 24) 8), [], []⟩
def d_Numbers_gains : DefT := ⟨mAt "Numbers" "gains", "gains", "Numbers.gains", defArgs (inClass (top 24) 9), defBody (inClass (top 24) 9), defScope (inClass (top 24) 9), [], []⟩
def d_Numbers_swaps : DefT := ⟨mAt "Numbers" "swaps", "swaps", "Numbers.swaps", defArgs (inClass (top 24) 10), defBody (inClass (top 24) 10), defScope (inClass (top 24) 10), [], []⟩
def d_Numbers_val : DefT := ⟨mAt "Numbers" "val", "val", "Numbers.val", defArgs (inClass (top 24) 11), defBody (inClass (top 24) 11), defScope (inClass (top 24) 11), [], []⟩
def d_Numbers_changed : DefT := ⟨mAt "Numbers" "changed", "changed", "Numbers.changed", defArgs (inClass (top 24) 12), defBody (inClass (top 24) 12), defScope (inClass (top 24) 12), [], []⟩
def d_Numbers_moved : DefT := ⟨mAt "Numbers" "moved", "moved", "Numbers.moved", defArgs (inClass (top 24) 13), defBody (inClass (top 24) 13), defScope (inClass (top 24) 13), [], []⟩
def dfl_Numbers_raised_p0 (K : PySem.W.Frag) : Addr := dflA (mAt "Numbers" "raised" K) 0 K
def d_Numbers_raised : DefT := ⟨mAt "Numbers" "raised", "raised", "Numbers.raised", defArgs (inClass (top 24) 14), defBody (inClass (top 24) 14), defScope (inClass (top 24) 14), [.adr (dfl_Numbers_raised_p0)], []⟩
def d_Numbers_dead_pair : DefT := ⟨mAt "Numbers" "dead_pair", "dead_pair", "Numbers.dead_pair", defArgs (inClass (top 24) 15), defBody (inClass (top 24) 15), defScope (inClass (top 24) 15), [], []⟩
def d_Numbers_lively_to : DefT := ⟨mAt "Numbers" "lively_to", "lively_to", "Numbers.lively_to", defArgs (inClass (top 24) 16), defBody (inClass (top 24) 16), defScope (inClass (top 24) 16), [], []⟩
def d_last_alive : DefT := ⟨gAt "last_alive", "last_alive", "last_alive", defArgs (top 25), defBody (top 25), defScope (top 25), [], []⟩
def d_first_not_above : DefT := ⟨gAt "first_not_above", "first_not_above", "first_not_above", defArgs (top 26), defBody (top 26), defScope (top 26), [], []⟩
def d__law_draws : DefT := ⟨gAt "_law_draws", "_law_draws", "_law_draws", defArgs (top 28), defBody (top 28), defScope (top 28), [], []⟩
def d__law_take : DefT := ⟨gAt "_law_take", "_law_take", "_law_take", defArgs (top 29), defBody (top 29), defScope (top 29), [], []⟩
def d__law_int : DefT := ⟨gAt "_law_int", "_law_int", "_law_int", defArgs (top 30), defBody (top 30), defScope (top 30), [], []⟩
def d__law_word : DefT := ⟨gAt "_law_word", "_law_word", "_law_word", defArgs (top 31), defBody (top 31), defScope (top 31), [], []⟩
def d__law_at : DefT := ⟨gAt "_law_at", "_law_at", "_law_at", defArgs (top 32), defBody (top 32), defScope (top 32), [], []⟩
def d__law_sum : DefT := ⟨gAt "_law_sum", "_law_sum", "_law_sum", defArgs (top 33), defBody (top 33), defScope (top 33), [], []⟩
def d__law_made : DefT := ⟨gAt "_law_made", "_law_made", "_law_made", defArgs (top 34), defBody (top 34), defScope (top 34), [], []⟩
def d__law_asked : DefT := ⟨gAt "_law_asked", "_law_asked", "_law_asked", defArgs (top 35), defBody (top 35), defScope (top 35), [], []⟩
def d__law_refusals : DefT := ⟨gAt "_law_refusals", "_law_refusals", "_law_refusals", defArgs (top 36), defBody (top 36), defScope (top 36), [], []⟩
def d__law_first : DefT := ⟨gAt "_law_first", "_law_first", "_law_first", defArgs (top 37), defBody (top 37), defScope (top 37), [], []⟩
def d__law_words_right : DefT := ⟨gAt "_law_words_right", "_law_words_right", "_law_words_right", defArgs (top 38), defBody (top 38), defScope (top 38), [], []⟩
def d__law_same_from : DefT := ⟨gAt "_law_same_from", "_law_same_from", "_law_same_from", defArgs (top 39), defBody (top 39), defScope (top 39), [], []⟩
def d__law_changes_right : DefT := ⟨gAt "_law_changes_right", "_law_changes_right", "_law_changes_right", defArgs (top 40), defBody (top 40), defScope (top 40), [], []⟩
def d__law_door : DefT := ⟨gAt "_law_door", "_law_door", "_law_door", defArgs (top 41), defBody (top 41), defScope (top 41), [], []⟩
def d__law_pair_refused : DefT := ⟨gAt "_law_pair_refused", "_law_pair_refused", "_law_pair_refused", defArgs (top 42), defBody (top 42), defScope (top 42), [], []⟩
def d__law_doors_right : DefT := ⟨gAt "_law_doors_right", "_law_doors_right", "_law_doors_right", defArgs (top 43), defBody (top 43), defScope (top 43), [], []⟩
def d__law_kept_apart : DefT := ⟨gAt "_law_kept_apart", "_law_kept_apart", "_law_kept_apart", defArgs (top 44), defBody (top 44), defScope (top 44), [], []⟩
def d__law_unlike_tails : DefT := ⟨gAt "_law_unlike_tails", "_law_unlike_tails", "_law_unlike_tails", defArgs (top 45), defBody (top 45), defScope (top 45), [], []⟩
def d__law_dead_right : DefT := ⟨gAt "_law_dead_right", "_law_dead_right", "_law_dead_right", defArgs (top 46), defBody (top 46), defScope (top 46), [], []⟩
def d_law : DefT := ⟨gAt "law", "law", "law", defArgs (top 47), defBody (top 47), defScope (top 47), [], []⟩
def fn : List DefT := [d_BadNumber___init__, d_BadRank___init__, d_BadWord___init__, d_BadNumbers___init__, d_is_int, d_check_number, d_is_row, d_is_row_of, d_is_int_row, d_is_number_pair, d_frozen, d_check_any_rank, d_check_rank_from, d_check_word, d_heights, d_told_pairs, d_Numbers___init__, d_Numbers_steady, d_Numbers_falling, d_Numbers___getitem__, d_Numbers___iter__, d_Numbers___eq__, d_Numbers_is_positive, d_Numbers_is_plain, d_Numbers_gain, d_Numbers_gains, d_Numbers_swaps, d_Numbers_val, d_Numbers_changed, d_Numbers_moved, d_Numbers_raised, d_Numbers_dead_pair, d_Numbers_lively_to, d_last_alive, d_first_not_above, d__law_draws, d__law_take, d__law_int, d__law_word, d__law_at, d__law_sum, d__law_made, d__law_asked, d__law_refusals, d__law_first, d__law_words_right, d__law_same_from, d__law_changes_right, d__law_door, d__law_pair_refused, d__law_doors_right, d__law_kept_apart, d__law_unlike_tails, d__law_dead_right, d_law]
def T_list_tuple : Isq := ⟨[("NoneType", false), ("bool", false), ("int", false), ("str", false), ("tuple", true), ("list", true)], [("Numbers", false)]⟩
def T_int : Isq := ⟨[("NoneType", false), ("bool", true), ("int", true), ("str", false), ("tuple", false), ("list", false)], [("Numbers", false)]⟩
def T_str : Isq := ⟨[("NoneType", false), ("bool", false), ("int", false), ("str", true), ("tuple", false), ("list", false)], [("Numbers", false)]⟩
def T_bool : Isq := ⟨[("NoneType", false), ("bool", true), ("int", false), ("str", false), ("tuple", false), ("list", false)], [("Numbers", false)]⟩
def T_Numbers : Isq := ⟨[("NoneType", false), ("bool", false), ("int", false), ("str", false), ("tuple", false), ("list", false)], [("Numbers", true)]⟩
def T_tuple : Isq := ⟨[("NoneType", false), ("bool", false), ("int", false), ("str", false), ("tuple", true), ("list", false)], [("Numbers", false)]⟩
def X_BadForm : List (Str × Bool) := [("RanksError", false), ("BadForm", true), ("BadNumber", true), ("BadRank", true), ("BadWord", true), ("BadNumbers", true)]
def T_any_Numbers : Isq := ⟨[("NoneType", true), ("bool", true), ("int", true), ("str", true), ("tuple", true), ("list", true)], [("Numbers", true)]⟩
def E_BadNumber : List (Str × Bool) := [("RanksError", false), ("BadForm", false), ("BadNumber", true), ("BadRank", false), ("BadWord", false), ("BadNumbers", false)]
def E_BadNumbers : List (Str × Bool) := [("RanksError", false), ("BadForm", false), ("BadNumber", false), ("BadRank", false), ("BadWord", false), ("BadNumbers", true)]
def E_BadRank : List (Str × Bool) := [("RanksError", false), ("BadForm", false), ("BadNumber", false), ("BadRank", true), ("BadWord", false), ("BadNumbers", false)]
def E_BadWord : List (Str × Bool) := [("RanksError", false), ("BadForm", false), ("BadNumber", false), ("BadRank", false), ("BadWord", true), ("BadNumbers", false)]
def ts0 : List Tst := [tupA dfl_Numbers___init___k0 [.int (1), .int (1)], tupA dfl_Numbers_raised_p0 [.int (1), .int (1)], (He.Fa.glo "RanksError").ok, (He.Fa.glo "BadForm").ok, (He.Fa.glo "BadNumber").ok, (He.Fa.glo "BadRank").ok, (He.Fa.glo "BadWord").ok, (He.Fa.glo "BadNumbers").ok, (He.Fa.glo "is_int").ok, (He.Fa.glo "check_number").ok, (He.Fa.glo "is_row").ok, (He.Fa.glo "is_row_of").ok, (He.Fa.glo "is_int_row").ok, (He.Fa.glo "is_number_pair").ok, (He.Fa.glo "frozen").ok, (He.Fa.glo "check_any_rank").ok, (He.Fa.glo "check_rank_from").ok, (He.Fa.glo "check_word").ok, (He.Fa.glo "heights").ok, (He.Fa.glo "told_pairs").ok]
def ts1 : List Tst := [(He.Fa.glo "Numbers").ok, (He.Fa.glo "last_alive").ok, (He.Fa.glo "first_not_above").ok, (He.Fa.glo "_law_draws").ok, (He.Fa.glo "_law_take").ok, (He.Fa.glo "_law_int").ok, (He.Fa.glo "_law_word").ok, (He.Fa.glo "_law_at").ok, (He.Fa.glo "_law_sum").ok, (He.Fa.glo "_law_made").ok, (He.Fa.glo "_law_asked").ok, (He.Fa.glo "_law_refusals").ok, (He.Fa.glo "_law_first").ok, (He.Fa.glo "_law_words_right").ok, (He.Fa.glo "_law_same_from").ok, (He.Fa.glo "_law_changes_right").ok, (He.Fa.glo "_law_door").ok, (He.Fa.glo "_law_pair_refused").ok, (He.Fa.glo "_law_doors_right").ok, (He.Fa.glo "_law_kept_apart").ok]
def ts2 : List Tst := [(He.Fa.glo "_law_unlike_tails").ok, (He.Fa.glo "_law_dead_right").ok, (He.Fa.glo "law").ok, (He.Fa.free "TypeError").ok, (He.Fa.free "all").ok, (He.Fa.free "bool").ok, (He.Fa.free "enumerate").ok, (He.Fa.free "int").ok, (He.Fa.free "isinstance").ok, (He.Fa.free "len").ok, (He.Fa.free "list").ok, (He.Fa.free "max").ok, (He.Fa.free "min").ok, (He.Fa.free "range").ok, (He.Fa.free "str").ok, (He.Fa.free "tuple").ok, (He.Fa.free "zip").ok, xcB "RanksError", xisB "RanksError", xcB "BadForm"]
def ts3 : List Tst := [xisB "BadForm", xcB "BadNumber", xisB "BadNumber", (He.Fa.meth "BadNumber" "__init__").ok, (He.Fa.noat "BadNumber" "name").ok, xcB "BadRank", xisB "BadRank", (He.Fa.meth "BadRank" "__init__").ok, (He.Fa.noat "BadRank" "rank").ok, xcB "BadWord", xisB "BadWord", (He.Fa.meth "BadWord" "__init__").ok, (He.Fa.noat "BadWord" "at").ok, xcB "BadNumbers", xisB "BadNumbers", (He.Fa.meth "BadNumbers" "__init__").ok, (He.Fa.noat "BadNumbers" "at").ok, insB "Numbers", (He.Fa.mkr "Numbers").ok, creadB "Numbers"]
def ts4 : List Tst := [cmetB "Numbers" "steady", creadB "Numbers", cmetB "Numbers" "falling", itemB "Numbers", eqB "Numbers", propB "Numbers" "is_positive", propB "Numbers" "is_plain", (He.Fa.meth "Numbers" "gain").ok, (He.Fa.meth "Numbers" "gains").ok, (He.Fa.meth "Numbers" "swaps").ok, (He.Fa.meth "Numbers" "val").ok, (He.Fa.meth "Numbers" "changed").ok, (He.Fa.meth "Numbers" "moved").ok, (He.Fa.meth "Numbers" "raised").ok, (He.Fa.meth "Numbers" "dead_pair").ok, (He.Fa.meth "Numbers" "lively_to").ok, (He.Fa.noat "Numbers" "pairs").ok, (He.Fa.noat "Numbers" "tail").ok, isTB ["list", "tuple"] T_list_tuple, isB (fun _ => .type "int") T_int]
def ts5 : List Tst := [isB (fun _ => .type "str") T_str, isB (fun _ => .type "bool") T_bool, isB (fun K => .ref (He.ga K "Numbers")) T_Numbers, isB (fun _ => .type "tuple") T_tuple, xkB X_BadForm "BadForm", nfB "Numbers" T_any_Numbers, exmB E_BadNumber "BadNumber", exmB E_BadNumbers "BadNumbers", exmB E_BadRank "BadRank", exmB E_BadWord "BadWord"]
def ts : List Tst := ts0 ++ ts1 ++ ts2 ++ ts3 ++ ts4 ++ ts5
def names0 : List PySem.Str := [PySem.Str.ofString "RanksError", PySem.Str.ofString "BadForm", PySem.Str.ofString "BadNumber", PySem.Str.ofString "BadRank", PySem.Str.ofString "BadWord", PySem.Str.ofString "BadNumbers", PySem.Str.ofString "is_int", PySem.Str.ofString "check_number", PySem.Str.ofString "is_row", PySem.Str.ofString "is_row_of", PySem.Str.ofString "is_int_row", PySem.Str.ofString "is_number_pair", PySem.Str.ofString "frozen", PySem.Str.ofString "check_any_rank", PySem.Str.ofString "check_rank_from", PySem.Str.ofString "check_word", PySem.Str.ofString "heights", PySem.Str.ofString "told_pairs", PySem.Str.ofString "Numbers", PySem.Str.ofString "last_alive"]
def names1 : List PySem.Str := [PySem.Str.ofString "first_not_above", PySem.Str.ofString "_law_draws", PySem.Str.ofString "_law_take", PySem.Str.ofString "_law_int", PySem.Str.ofString "_law_word", PySem.Str.ofString "_law_at", PySem.Str.ofString "_law_sum", PySem.Str.ofString "_law_made", PySem.Str.ofString "_law_asked", PySem.Str.ofString "_law_refusals", PySem.Str.ofString "_law_first", PySem.Str.ofString "_law_words_right", PySem.Str.ofString "_law_same_from", PySem.Str.ofString "_law_changes_right", PySem.Str.ofString "_law_door", PySem.Str.ofString "_law_pair_refused", PySem.Str.ofString "_law_doors_right", PySem.Str.ofString "_law_kept_apart", PySem.Str.ofString "_law_unlike_tails", PySem.Str.ofString "_law_dead_right"]
def names : List PySem.Str := names0 ++ names1
abbrev R : PySem.W.OpenRow := PySem.W.OpenLaw.row PySem.Challenge.rw_upsanddowns_k09_gains
abbrev hk : PySem.W.Hook := hookT 5 ts fn
def ob (s : PySem.W.SharedT) : AlT := seeG 5 ts fn (HandSHeadRun.getT s)
theorem ob_eq (s : PySem.W.SharedT) : ob s = hk.obs s.abs := seeG_eq (HandSHeadRun.getT_eq s)
theorem run (w : World) : HandSHeadRun.RunEq R (PySem.W.view R.prog [47]) hk ob 4000 names w := by
  intro os
  kernel_rfl
end HT

set_option Elab.async false
set_option linter.all false
set_option maxRecDepth 100000
set_option maxHeartbeats 4000000
namespace HT
open PySem PySem.Spec PyProof.Rows L2 G
theorem tc_of {tbl : List (PySem.Str × Bool)} {cs : List PySem.Str} (h : (tbl.all fun p => !p.2 || decide (p.1 ∈ cs)) = true) : ∀ x, tbl.lookup x = some true → x ∈ cs := fun x e => by
  have z := List.all_eq_true.mp h (x, true) (look_mem e)
  simpa using z
theorem xfs_nil {K : PySem.W.Frag} {f : PySem.Str} : ∀ C ∈ List.map (ca K) [], XfC K C ∧ PySem.W.findIn K (.ref C) f = some none := fun _ h => nomatch h
theorem xfs_cons {K : PySem.W.Frag} {f c : PySem.Str} {cs : List PySem.Str} (x : XfC K (ca K c)) (n : NoAttr K (ca K c) f) (r : ∀ C ∈ List.map (ca K) cs, XfC K C ∧ PySem.W.findIn K (.ref C) f = some none) :
    ∀ C ∈ List.map (ca K) (c :: cs), XfC K C ∧ PySem.W.findIn K (.ref C) f = some none := fun C h => (List.mem_cons.mp h).elim (fun e => by subst e; exact ⟨x, n⟩) (r C)
theorem loc {sc : Scope} {x : PySem.Str} (h : Loc sc x := by first | exact Or.inl rfl | exact Or.inr rfl) : Loc sc x := h
section
variable {P : Program} {w : World} {K : PySem.W.Frag} {mg : Str → Option Value} {base : Heap}
theorem sc_BadNumber___init__ : FnScope ["self", "name"] ["self", "name"] (defScope (inClass (top 3) 0)) := ⟨rfl, rfl, rfl, by decide +kernel, rfl, by decide +kernel, by decide +kernel⟩
theorem ok_BadNumber___init__ (KB : K.In base) (GB : base.Ns mainGlobals mg) (c : Says ts fn K) : Def P w K mg base 1 (mAt "BadNumber" "__init__" K) ["self", "name"] (spX (ca K "BadNumber") 1 [("name", 0)]) (All K ["self", "name"]) := by
  obtain ⟨fd, F⟩ := c.def_ 0 (d := d_BadNumber___init__) rfl
  have x_BadNumber := xcB_ok (c.test 61 (t := xcB "BadNumber") rfl)
  have n_name := He.noat_ok (c.test 64 (t := (He.Fa.noat "BadNumber" "name").ok) rfl)
  have T : KeepsOk K (ca K "BadNumber") [("name", 0)] := ⟨x_BadNumber, fun p hp => by
    simp only [List.mem_cons, List.not_mem_nil, or_false] at hp
    subst hp
    exact n_name, by decide, by decide⟩
  exact ⟨fd, keeps_ok F sc_BadNumber___init__ T rfl fun cdv A outer s H E hr => (pss_cons (ps_keep (pv 0) (pv 1)) pss_nil), F.bindsN fun _ _ _ _ _ _ us hl => match us, hl with | [_, _], _ => rfl, F.kp⟩
theorem sc_BadRank___init__ : FnScope ["self", "rank"] ["self", "rank"] (defScope (inClass (top 4) 0)) := ⟨rfl, rfl, rfl, by decide +kernel, rfl, by decide +kernel, by decide +kernel⟩
theorem ok_BadRank___init__ (KB : K.In base) (GB : base.Ns mainGlobals mg) (c : Says ts fn K) : Def P w K mg base 1 (mAt "BadRank" "__init__" K) ["self", "rank"] (spX (ca K "BadRank") 1 [("rank", 0)]) (All K ["self", "rank"]) := by
  obtain ⟨fd, F⟩ := c.def_ 1 (d := d_BadRank___init__) rfl
  have x_BadRank := xcB_ok (c.test 65 (t := xcB "BadRank") rfl)
  have n_rank := He.noat_ok (c.test 68 (t := (He.Fa.noat "BadRank" "rank").ok) rfl)
  have T : KeepsOk K (ca K "BadRank") [("rank", 0)] := ⟨x_BadRank, fun p hp => by
    simp only [List.mem_cons, List.not_mem_nil, or_false] at hp
    subst hp
    exact n_rank, by decide, by decide⟩
  exact ⟨fd, keeps_ok F sc_BadRank___init__ T rfl fun cdv A outer s H E hr => (pss_cons (ps_keep (pv 0) (pv 1)) pss_nil), F.bindsN fun _ _ _ _ _ _ us hl => match us, hl with | [_, _], _ => rfl, F.kp⟩
theorem sc_BadWord___init__ : FnScope ["self", "at"] ["self", "at"] (defScope (inClass (top 5) 0)) := ⟨rfl, rfl, rfl, by decide +kernel, rfl, by decide +kernel, by decide +kernel⟩
theorem ok_BadWord___init__ (KB : K.In base) (GB : base.Ns mainGlobals mg) (c : Says ts fn K) : Def P w K mg base 1 (mAt "BadWord" "__init__" K) ["self", "at"] (spX (ca K "BadWord") 1 [("at", 0)]) (All K ["self", "at"]) := by
  obtain ⟨fd, F⟩ := c.def_ 2 (d := d_BadWord___init__) rfl
  have x_BadWord := xcB_ok (c.test 69 (t := xcB "BadWord") rfl)
  have n_at := He.noat_ok (c.test 72 (t := (He.Fa.noat "BadWord" "at").ok) rfl)
  have T : KeepsOk K (ca K "BadWord") [("at", 0)] := ⟨x_BadWord, fun p hp => by
    simp only [List.mem_cons, List.not_mem_nil, or_false] at hp
    subst hp
    exact n_at, by decide, by decide⟩
  exact ⟨fd, keeps_ok F sc_BadWord___init__ T rfl fun cdv A outer s H E hr => (pss_cons (ps_keep (pv 0) (pv 1)) pss_nil), F.bindsN fun _ _ _ _ _ _ us hl => match us, hl with | [_, _], _ => rfl, F.kp⟩
theorem sc_BadNumbers___init__ : FnScope ["self", "at"] ["self", "at"] (defScope (inClass (top 6) 0)) := ⟨rfl, rfl, rfl, by decide +kernel, rfl, by decide +kernel, by decide +kernel⟩
theorem ok_BadNumbers___init__ (KB : K.In base) (GB : base.Ns mainGlobals mg) (c : Says ts fn K) : Def P w K mg base 1 (mAt "BadNumbers" "__init__" K) ["self", "at"] (spX (ca K "BadNumbers") 1 [("at", 0)]) (All K ["self", "at"]) := by
  obtain ⟨fd, F⟩ := c.def_ 3 (d := d_BadNumbers___init__) rfl
  have x_BadNumbers := xcB_ok (c.test 73 (t := xcB "BadNumbers") rfl)
  have n_at := He.noat_ok (c.test 76 (t := (He.Fa.noat "BadNumbers" "at").ok) rfl)
  have T : KeepsOk K (ca K "BadNumbers") [("at", 0)] := ⟨x_BadNumbers, fun p hp => by
    simp only [List.mem_cons, List.not_mem_nil, or_false] at hp
    subst hp
    exact n_at, by decide, by decide⟩
  exact ⟨fd, keeps_ok F sc_BadNumbers___init__ T rfl fun cdv A outer s H E hr => (pss_cons (ps_keep (pv 0) (pv 1)) pss_nil), F.bindsN fun _ _ _ _ _ _ us hl => match us, hl with | [_, _], _ => rfl, F.kp⟩
def x_is_int : Es := (esSeq (esRet (evAnd (evIs T_int (evVar 0)) (evNot (evIs T_bool (evVar 0))))) esNext)
abbrev r_is_int : G.Run := runF 1 1 x_is_int
theorem sc_is_int : FnScope ["one"] ["one"] (defScope (top 8)) := ⟨rfl, rfl, rfl, by decide +kernel, rfl, by decide +kernel, by decide +kernel⟩
theorem ok_is_int (KB : K.In base) (GB : base.Ns mainGlobals mg) (c : Says ts fn K) : Def P w K mg base 1 (gAt "is_int" K) ["one"] (spF K r_is_int) (All K ["one"]) := by
  obtain ⟨fd, F⟩ := c.def_ 4 (d := d_is_int) rfl
  have g_isinstance := He.free_ok KB GB (c.test 48 (t := (He.Fa.free "isinstance").ok) rfl)
  have g_int := He.free_ok KB GB (c.test 47 (t := (He.Fa.free "int").ok) rfl)
  have i_int := isB_ty (c.test 99 (t := isB (fun _ => .type "int") T_int) rfl)
  have g_bool := He.free_ok KB GB (c.test 45 (t := (He.Fa.free "bool").ok) rfl)
  have i_bool := isB_ty (c.test 101 (t := isB (fun _ => .type "bool") T_bool) rfl)
  have sc := sc_is_int
  refine ⟨fd, fn_ok F sc 1 rfl fun cdv A outer s H E hr => ?_, F.bindsN fun _ _ _ _ _ _ us hl => match us, hl with | [_], _ => rfl, F.kp⟩
  exact ⟨_, (pss_cons (ps_ret (pe_and (pe_callB call_isi rfl g_isinstance b_isinstance (pa_cons (pv 0) (pa_cons (pe_ty rfl g_int b_int) pa_nil))) (pe_one (pe_not (pe_callB call_isi rfl g_isinstance b_isinstance (pa_cons (pv 0) (pa_cons (pe_ty rfl g_bool b_bool) pa_nil))))))) pss_nil),
    (ss_seq (ss_ret (se_and (se_is i_int (se_var 0)) (se_not (se_is i_bool (se_var 0))))) ss_next)⟩
def x_check_number : Es := (esSeq (esIf (etNot (etV (evCall r_is_int (eaCons (evVar 1) eaNil)))) (esSeq (esRaise "BadNumber" 1 [("name", 0)] (eaCons (evVar 0) eaNil)) esNext) esNext) (esSeq (esIf (etAnd (etV (evBin (gNotN) (evVar 2) (evC .non))) (etV (evBin (gCmp (fun i j => decide (i < j))) (evVar 1) (evVar 2)))) (esSeq (esRaise "BadNumber" 1 [("name", 0)] (eaCons (evVar 0) eaNil)) esNext) esNext) (esSeq (esRet (evVar 1)) esNext)))
abbrev r_check_number : G.Run := runF 3 3 x_check_number
theorem sc_check_number : FnScope ["name", "one", "least"] ["name", "one", "least"] (defScope (top 9)) := ⟨rfl, rfl, rfl, by decide +kernel, rfl, by decide +kernel, by decide +kernel⟩
theorem ok_check_number (KB : K.In base) (GB : base.Ns mainGlobals mg) (c : Says ts fn K) : Def P w K mg base 3 (gAt "check_number" K) ["name", "one", "least"] (spF K r_check_number) (All K ["name", "one", "least"]) := by
  obtain ⟨fd, F⟩ := c.def_ 5 (d := d_check_number) rfl
  obtain ⟨fd_is_int, F_is_int, B_is_int, P_is_int⟩ := (ok_is_int (P := P) (w := w) KB GB c).ex
  have g_is_int := He.glo_ok KB GB (c.test 8 (t := (He.Fa.glo "is_int").ok) rfl)
  obtain ⟨fd_BadNumber___init__, F_BadNumber___init__, B_BadNumber___init__, P_BadNumber___init__⟩ := (ok_BadNumber___init__ (P := P) (w := w) KB GB c).ex
  have g_BadNumber := He.glo_ok KB GB (c.test 4 (t := (He.Fa.glo "BadNumber").ok) rfl)
  have x_BadNumber := xcB_ok (c.test 61 (t := xcB "BadNumber") rfl)
  have m_BadNumber := He.meth_ok (c.test 63 (t := (He.Fa.meth "BadNumber" "__init__").ok) rfl)
  have sc := sc_check_number
  refine ⟨fd, fn_ok F sc 3 rfl fun cdv A outer s H E hr => ?_, F.bindsN fun _ _ _ _ _ _ us hl => match us, hl with | [_, _, _], _ => rfl, F.kp⟩
  exact ⟨_, (pss_cons (ps_if (pt_not (pt_val (pe_callS F_is_int (hr.mono (by decide)) rfl g_is_int P_is_int B_is_int (fun σ => passAt (takes_of rfl rfl rfl rfl) σ) (pa_cons (pv 1) pa_nil)))) (pss_cons (ps_raise rfl (takes_of rfl rfl rfl rfl) (pmk_x x_BadNumber m_BadNumber.at_ (fnty m_BadNumber.fn) F_BadNumber___init__ (hr.mono (by decide)) B_BadNumber___init__ passL rfl g_BadNumber (pa_cons (pv 0) pa_nil))) pss_nil) pss_nil) (pss_cons (ps_if (PW.pt (pw_and (pt_cmpR op_notN (pv 2) pe_non (nomark _)) (pw_and1 (pt_cmpR op_lt (pv 1) (pv 2) (nomark _))))) (pss_cons (ps_raise rfl (takes_of rfl rfl rfl rfl) (pmk_x x_BadNumber m_BadNumber.at_ (fnty m_BadNumber.fn) F_BadNumber___init__ (hr.mono (by decide)) B_BadNumber___init__ passL rfl g_BadNumber (pa_cons (pv 0) pa_nil))) pss_nil) pss_nil) (pss_cons (ps_ret (pv 1)) pss_nil))),
    (ss_seq (ss_if (st_not (st_v (se_call (sa_cons (se_var 1) sa_nil)))) (ss_seq (ss_raise (c := "BadNumber") (sa_cons (se_var 0) sa_nil)) ss_next) ss_next) (ss_seq (ss_if (st_and (st_v (se_op (o_notN) (se_var 2) (se_c fun _ => RD.non))) (st_v (se_op (o_cmp _) (se_var 1) (se_var 2)))) (ss_seq (ss_raise (c := "BadNumber") (sa_cons (se_var 0) sa_nil)) ss_next) ss_next) (ss_seq (ss_ret (se_var 1)) ss_next)))⟩
def x_is_row : Es := (esSeq (esRet (evIs T_list_tuple (evVar 0))) esNext)
abbrev r_is_row : G.Run := runF 1 1 x_is_row
theorem sc_is_row : FnScope ["one"] ["one"] (defScope (top 11)) := ⟨rfl, rfl, rfl, by decide +kernel, rfl, by decide +kernel, by decide +kernel⟩
theorem ok_is_row (KB : K.In base) (GB : base.Ns mainGlobals mg) (c : Says ts fn K) : Def P w K mg base 1 (gAt "is_row" K) ["one"] (spF K r_is_row) (All K ["one"]) := by
  obtain ⟨fd, F⟩ := c.def_ 6 (d := d_is_row) rfl
  have g_isinstance := He.free_ok KB GB (c.test 48 (t := (He.Fa.free "isinstance").ok) rfl)
  have g_list := He.free_ok KB GB (c.test 50 (t := (He.Fa.free "list").ok) rfl)
  have g_tuple := He.free_ok KB GB (c.test 55 (t := (He.Fa.free "tuple").ok) rfl)
  have i_T_list_tuple := isTB_ok (c.test 98 (t := isTB ["list", "tuple"] T_list_tuple) rfl)
  have sc := sc_is_row
  refine ⟨fd, fn_ok F sc 1 rfl fun cdv A outer s H E hr => ?_, F.bindsN fun _ _ _ _ _ _ us hl => match us, hl with | [_], _ => rfl, F.kp⟩
  exact ⟨_, (pss_cons (ps_ret (pe_callB call_isiT rfl g_isinstance b_isinstance (pa_cons (pv 0) (pa_cons (pe_tup (pa_cons (pe_ty rfl g_list b_list) (pa_cons (pe_ty rfl g_tuple b_tuple) pa_nil))) pa_nil)))) pss_nil),
    (ss_seq (ss_ret (se_isT i_T_list_tuple (by decide) (fun _ _ _ q => q) (se_var 0))) ss_next)⟩
def x_is_row_of : Es := (esSeq (esRet (evAnd (evCall r_is_row (eaCons (evVar 0) eaNil)) (evBin (gEq) (evCB gLen (eaCons (evVar 0) eaNil)) (evVar 1)))) esNext)
abbrev r_is_row_of : G.Run := runF 2 2 x_is_row_of
theorem sc_is_row_of : FnScope ["one", "length"] ["one", "length"] (defScope (top 12)) := ⟨rfl, rfl, rfl, by decide +kernel, rfl, by decide +kernel, by decide +kernel⟩
theorem ok_is_row_of (KB : K.In base) (GB : base.Ns mainGlobals mg) (c : Says ts fn K) : Def P w K mg base 2 (gAt "is_row_of" K) ["one", "length"] (spF K r_is_row_of) (All K ["one", "length"]) := by
  obtain ⟨fd, F⟩ := c.def_ 7 (d := d_is_row_of) rfl
  obtain ⟨fd_is_row, F_is_row, B_is_row, P_is_row⟩ := (ok_is_row (P := P) (w := w) KB GB c).ex
  have g_is_row := He.glo_ok KB GB (c.test 10 (t := (He.Fa.glo "is_row").ok) rfl)
  have g_len := He.free_ok KB GB (c.test 49 (t := (He.Fa.free "len").ok) rfl)
  have sc := sc_is_row_of
  refine ⟨fd, fn_ok F sc 2 rfl fun cdv A outer s H E hr => ?_, F.bindsN fun _ _ _ _ _ _ us hl => match us, hl with | [_, _], _ => rfl, F.kp⟩
  exact ⟨_, (pss_cons (ps_ret (pe_and (pe_callS F_is_row (hr.mono (by decide)) rfl g_is_row P_is_row B_is_row (fun σ => passAt (takes_of rfl rfl rfl rfl) σ) (pa_cons (pv 0) pa_nil)) (pe_one (pe_cmpR (op_eqS hr.units) (pe_callB call_len rfl g_len b_len (pa_cons (pv 0) pa_nil)) (pv 1) (nomark _))))) pss_nil),
    (ss_seq (ss_ret (se_and (se_call (sa_cons (se_var 0) sa_nil)) (se_op (o_eq) (se_cb oc_len (sa_cons (se_var 0) sa_nil)) (se_var 1)))) ss_next)⟩
def x_is_int_row : Es := (esSeq (esRet (evAnd (evCall r_is_row_of (eaCons (evVar 0) (eaCons (evVar 1) eaNil))) (evCB gAll (eaCons (evLc false [2] (eiSeq (evVar 0)) (.one (egName 2)) etYes (evCall r_is_int (eaCons (evVar 2) eaNil))) eaNil)))) esNext)
abbrev r_is_int_row : G.Run := runF 2 3 x_is_int_row
theorem sc_is_int_row : FnScope ["one", "length", "entry"] ["one", "length"] (defScope (top 13)) := ⟨rfl, rfl, rfl, by decide +kernel, rfl, by decide +kernel, by decide +kernel⟩
theorem ok_is_int_row (KB : K.In base) (GB : base.Ns mainGlobals mg) (c : Says ts fn K) : Def P w K mg base 3 (gAt "is_int_row" K) ["one", "length"] (spF K r_is_int_row) (All K ["one", "length"]) := by
  obtain ⟨fd, F⟩ := c.def_ 8 (d := d_is_int_row) rfl
  obtain ⟨fd_is_row_of, F_is_row_of, B_is_row_of, P_is_row_of⟩ := (ok_is_row_of (P := P) (w := w) KB GB c).ex
  have g_is_row_of := He.glo_ok KB GB (c.test 11 (t := (He.Fa.glo "is_row_of").ok) rfl)
  obtain ⟨fd_is_int, F_is_int, B_is_int, P_is_int⟩ := (ok_is_int (P := P) (w := w) KB GB c).ex
  have g_is_int := He.glo_ok KB GB (c.test 8 (t := (He.Fa.glo "is_int").ok) rfl)
  have g_all := He.free_ok KB GB (c.test 44 (t := (He.Fa.free "all").ok) rfl)
  have sc := sc_is_int_row
  refine ⟨fd, fn_ok F sc 3 rfl fun cdv A outer s H E hr => ?_, F.bindsN fun _ _ _ _ _ _ us hl => match us, hl with | [_, _], _ => rfl, F.kp⟩
  exact ⟨_, (pss_cons (ps_ret (pe_and (pe_callS F_is_row_of (hr.mono (by decide)) rfl g_is_row_of P_is_row_of B_is_row_of (fun σ => passAt (takes_of rfl rfl rfl rfl) σ) (pa_cons (pv 0) (pa_cons (pv 1) pa_nil))) (pe_one (pe_callB (cr_all rfl) rfl g_all b_all (pa_cons (pe_lc (own := [("entry", 2)]) rfl sc.nd (pi_seq (pi_list (pv 0)) (pi_tup (pv 0)) (pi_str (pv 0))) (show BlkOk ["one", "length", "entry"] (defScope (top 13)) _ [("entry", 2)] from ⟨rfl, by decide +kernel, by decide +kernel, by decide +kernel, by decide +kernel⟩) (fun s H C cl fp => (pg_name sc.nd (i := 2) rfl loc)) (fun s H C cl fp => pts_nil) (fun s H C cl fp => (pe_callS F_is_int (hr.mono (by decide)) rfl g_is_int P_is_int B_is_int (fun σ => passAt takes0 σ) (pa_cons (pv 2) pa_nil)))) pa_nil))))) pss_nil),
    (ss_seq (ss_ret (se_and (se_call (sa_cons (se_var 0) (sa_cons (se_var 1) sa_nil))) (se_cb oc_all (sa_cons (se_lc (w' := noX) false (si_seq (se_var 0)) (stk_one (sg_name 2)) (gw_name (by decide)) etyes (se_call (sa_cons (se_var 2) sa_nil))) sa_nil)))) ss_next)⟩
def x_is_number_pair : Es := (esSeq (esRet (evAnd (evCall r_is_int_row (eaCons (evVar 0) (eaCons (evC (.int 2)) eaNil))) (evBin (gCmp (fun i j => decide (j ≤ i))) (evBin gIx (evVar 0) (evC (.int 0))) (evC (.int 0))))) esNext)
abbrev r_is_number_pair : G.Run := runF 1 1 x_is_number_pair
theorem sc_is_number_pair : FnScope ["one"] ["one"] (defScope (top 14)) := ⟨rfl, rfl, rfl, by decide +kernel, rfl, by decide +kernel, by decide +kernel⟩
theorem ok_is_number_pair (KB : K.In base) (GB : base.Ns mainGlobals mg) (c : Says ts fn K) : Def P w K mg base 4 (gAt "is_number_pair" K) ["one"] (spF K r_is_number_pair) (All K ["one"]) := by
  obtain ⟨fd, F⟩ := c.def_ 9 (d := d_is_number_pair) rfl
  obtain ⟨fd_is_int_row, F_is_int_row, B_is_int_row, P_is_int_row⟩ := (ok_is_int_row (P := P) (w := w) KB GB c).ex
  have g_is_int_row := He.glo_ok KB GB (c.test 12 (t := (He.Fa.glo "is_int_row").ok) rfl)
  have sc := sc_is_number_pair
  refine ⟨fd, fn_ok F sc 1 rfl fun cdv A outer s H E hr => ?_, F.bindsN fun _ _ _ _ _ _ us hl => match us, hl with | [_], _ => rfl, F.kp⟩
  exact ⟨_, (pss_cons (ps_ret (pe_and (pe_callS F_is_int_row (hr.mono (by decide)) rfl g_is_int_row P_is_int_row B_is_int_row (fun σ => passAt (takes_of rfl rfl rfl rfl) σ) (pa_cons (pv 0) (pa_cons pe_int pa_nil))) (pe_one (pe_cmpR op_ge (pe_ix ix_seq (pv 0) pe_int (fun _ _ => rfl)) pe_int (nomark _))))) pss_nil),
    (ss_seq (ss_ret (se_and (se_call (sa_cons (se_var 0) (sa_cons (se_c fun _ => RD.int _) sa_nil))) (se_op (o_cmp _) (se_op o_ix (se_var 0) (se_c fun _ => RD.int _)) (se_c fun _ => RD.int _)))) ss_next)⟩
def x_frozen : Es := (esSeq (esRet (evCB gTuple (eaCons (evLc false [1] (eiSeq (evVar 0)) (.one (egName 1)) etYes (evCB gTuple (eaCons (evVar 1) eaNil))) eaNil))) esNext)
abbrev r_frozen : G.Run := runF 1 2 x_frozen
theorem sc_frozen : FnScope ["table", "row"] ["table"] (defScope (top 15)) := ⟨rfl, rfl, rfl, by decide +kernel, rfl, by decide +kernel, by decide +kernel⟩
theorem ok_frozen (KB : K.In base) (GB : base.Ns mainGlobals mg) (c : Says ts fn K) : Def P w K mg base 1 (gAt "frozen" K) ["table"] (spF K r_frozen) (All K ["table"]) := by
  obtain ⟨fd, F⟩ := c.def_ 10 (d := d_frozen) rfl
  have g_tuple := He.free_ok KB GB (c.test 55 (t := (He.Fa.free "tuple").ok) rfl)
  have sc := sc_frozen
  refine ⟨fd, fn_ok F sc 2 rfl fun cdv A outer s H E hr => ?_, F.bindsN fun _ _ _ _ _ _ us hl => match us, hl with | [_], _ => rfl, F.kp⟩
  exact ⟨_, (pss_cons (ps_ret (pe_callTy call_tuple_of rfl g_tuple b_tuple (pa_cons (pe_lc (own := [("row", 1)]) rfl sc.nd (pi_seq (pi_list (pv 0)) (pi_tup (pv 0)) (pi_str (pv 0))) (show BlkOk ["table", "row"] (defScope (top 15)) _ [("row", 1)] from ⟨rfl, by decide +kernel, by decide +kernel, by decide +kernel, by decide +kernel⟩) (fun s H C cl fp => (pg_name sc.nd (i := 1) rfl loc)) (fun s H C cl fp => pts_nil) (fun s H C cl fp => (pe_callTy call_tuple_of rfl g_tuple b_tuple (pa_cons (pv 1) pa_nil)))) pa_nil))) pss_nil),
    (ss_seq (ss_ret (se_cb oc_tuple (sa_cons (se_lc (w' := noX) false (si_seq (se_var 0)) (stk_one (sg_name 1)) (gw_name (by decide)) etyes (se_cb oc_tuple (sa_cons (se_var 1) sa_nil))) sa_nil))) ss_next)⟩
def x_check_rank_from : Es := (esSeq (esIf (etOr (etNot (etV (evCall r_is_int (eaCons (evVar 0) eaNil)))) (etV (evBin (gCmp (fun i j => decide (i < j))) (evVar 0) (evVar 1)))) (esSeq (esRaise "BadRank" 1 [("rank", 0)] (eaCons (evVar 0) eaNil)) esNext) esNext) (esSeq (esRet (evVar 0)) esNext))
abbrev r_check_rank_from : G.Run := runF 2 2 x_check_rank_from
theorem sc_check_rank_from : FnScope ["rank", "least"] ["rank", "least"] (defScope (top 18)) := ⟨rfl, rfl, rfl, by decide +kernel, rfl, by decide +kernel, by decide +kernel⟩
theorem ok_check_rank_from (KB : K.In base) (GB : base.Ns mainGlobals mg) (c : Says ts fn K) : Def P w K mg base 3 (gAt "check_rank_from" K) ["rank", "least"] (spF K r_check_rank_from) (All K ["rank", "least"]) := by
  obtain ⟨fd, F⟩ := c.def_ 12 (d := d_check_rank_from) rfl
  obtain ⟨fd_is_int, F_is_int, B_is_int, P_is_int⟩ := (ok_is_int (P := P) (w := w) KB GB c).ex
  have g_is_int := He.glo_ok KB GB (c.test 8 (t := (He.Fa.glo "is_int").ok) rfl)
  obtain ⟨fd_BadRank___init__, F_BadRank___init__, B_BadRank___init__, P_BadRank___init__⟩ := (ok_BadRank___init__ (P := P) (w := w) KB GB c).ex
  have g_BadRank := He.glo_ok KB GB (c.test 5 (t := (He.Fa.glo "BadRank").ok) rfl)
  have x_BadRank := xcB_ok (c.test 65 (t := xcB "BadRank") rfl)
  have m_BadRank := He.meth_ok (c.test 67 (t := (He.Fa.meth "BadRank" "__init__").ok) rfl)
  have sc := sc_check_rank_from
  refine ⟨fd, fn_ok F sc 2 rfl fun cdv A outer s H E hr => ?_, F.bindsN fun _ _ _ _ _ _ us hl => match us, hl with | [_, _], _ => rfl, F.kp⟩
  exact ⟨_, (pss_cons (ps_if (PW.pt (pw_or (pt_not (pt_val (pe_callS F_is_int (hr.mono (by decide)) rfl g_is_int P_is_int B_is_int (fun σ => passAt (takes_of rfl rfl rfl rfl) σ) (pa_cons (pv 0) pa_nil)))) (pw_or1 (pt_cmpR op_lt (pv 0) (pv 1) (nomark _))))) (pss_cons (ps_raise rfl (takes_of rfl rfl rfl rfl) (pmk_x x_BadRank m_BadRank.at_ (fnty m_BadRank.fn) F_BadRank___init__ (hr.mono (by decide)) B_BadRank___init__ passL rfl g_BadRank (pa_cons (pv 0) pa_nil))) pss_nil) pss_nil) (pss_cons (ps_ret (pv 0)) pss_nil)),
    (ss_seq (ss_if (st_or (st_not (st_v (se_call (sa_cons (se_var 0) sa_nil)))) (st_v (se_op (o_cmp _) (se_var 0) (se_var 1)))) (ss_seq (ss_raise (c := "BadRank") (sa_cons (se_var 0) sa_nil)) ss_next) ss_next) (ss_seq (ss_ret (se_var 0)) ss_next))⟩
def x_check_any_rank : Es := (esSeq (esRet (evCall r_check_rank_from (eaCons (evVar 0) (eaCons (evC (.int 0)) eaNil)))) esNext)
abbrev r_check_any_rank : G.Run := runF 1 1 x_check_any_rank
theorem sc_check_any_rank : FnScope ["rank"] ["rank"] (defScope (top 17)) := ⟨rfl, rfl, rfl, by decide +kernel, rfl, by decide +kernel, by decide +kernel⟩
theorem ok_check_any_rank (KB : K.In base) (GB : base.Ns mainGlobals mg) (c : Says ts fn K) : Def P w K mg base 4 (gAt "check_any_rank" K) ["rank"] (spF K r_check_any_rank) (All K ["rank"]) := by
  obtain ⟨fd, F⟩ := c.def_ 11 (d := d_check_any_rank) rfl
  obtain ⟨fd_check_rank_from, F_check_rank_from, B_check_rank_from, P_check_rank_from⟩ := (ok_check_rank_from (P := P) (w := w) KB GB c).ex
  have g_check_rank_from := He.glo_ok KB GB (c.test 16 (t := (He.Fa.glo "check_rank_from").ok) rfl)
  have sc := sc_check_any_rank
  refine ⟨fd, fn_ok F sc 1 rfl fun cdv A outer s H E hr => ?_, F.bindsN fun _ _ _ _ _ _ us hl => match us, hl with | [_], _ => rfl, F.kp⟩
  exact ⟨_, (pss_cons (ps_ret (pe_callS F_check_rank_from (hr.mono (by decide)) rfl g_check_rank_from P_check_rank_from B_check_rank_from (fun σ => passAt (takes_of rfl rfl rfl rfl) σ) (pa_cons (pv 0) (pa_cons pe_int pa_nil)))) pss_nil),
    (ss_seq (ss_ret (se_call (sa_cons (se_var 0) (sa_cons (se_c fun _ => RD.int _) sa_nil)))) ss_next)⟩
def x_check_word : Es := (esSeq (esIf (etNot (etV (evIs T_str (evVar 0)))) (esSeq (esRaise "BadWord" 1 [("at", 0)] (eaCons (evUn gNeg (evC (.int 1))) eaNil)) esNext) esNext) (esSeq (esFor (eiEn (eaCons (evVar 0) eaNil)) (.row 2 (egCons (egName 1) (egCons (egName 2) egNil))) (esSeq (esIf (etAnd (etV (evBin (gNe) (evVar 2) (evC (.str (PySem.Str.ofString "u"))))) (etV (evBin (gNe) (evVar 2) (evC (.str (PySem.Str.ofString "d")))))) (esSeq (esRaise "BadWord" 1 [("at", 0)] (eaCons (evVar 1) eaNil)) esNext) esNext) esNext)) (esSeq (esRet (evVar 0)) esNext)))
abbrev r_check_word : G.Run := runF 1 3 x_check_word
theorem sc_check_word : FnScope ["word", "at", "letter"] ["word"] (defScope (top 20)) := ⟨rfl, rfl, rfl, by decide +kernel, rfl, by decide +kernel, by decide +kernel⟩
theorem ok_check_word (KB : K.In base) (GB : base.Ns mainGlobals mg) (c : Says ts fn K) : Def P w K mg base 3 (gAt "check_word" K) ["word"] (spF K r_check_word) (All K ["word"]) := by
  obtain ⟨fd, F⟩ := c.def_ 13 (d := d_check_word) rfl
  have g_isinstance := He.free_ok KB GB (c.test 48 (t := (He.Fa.free "isinstance").ok) rfl)
  have g_str := He.free_ok KB GB (c.test 54 (t := (He.Fa.free "str").ok) rfl)
  have i_str := isB_ty (c.test 100 (t := isB (fun _ => .type "str") T_str) rfl)
  obtain ⟨fd_BadWord___init__, F_BadWord___init__, B_BadWord___init__, P_BadWord___init__⟩ := (ok_BadWord___init__ (P := P) (w := w) KB GB c).ex
  have g_BadWord := He.glo_ok KB GB (c.test 6 (t := (He.Fa.glo "BadWord").ok) rfl)
  have x_BadWord := xcB_ok (c.test 69 (t := xcB "BadWord") rfl)
  have m_BadWord := He.meth_ok (c.test 71 (t := (He.Fa.meth "BadWord" "__init__").ok) rfl)
  have g_enumerate := He.free_ok KB GB (c.test 46 (t := (He.Fa.free "enumerate").ok) rfl)
  have sc := sc_check_word
  refine ⟨fd, fn_ok F sc 3 rfl fun cdv A outer s H E hr => ?_, F.bindsN fun _ _ _ _ _ _ us hl => match us, hl with | [_], _ => rfl, F.kp⟩
  exact ⟨_, (pss_cons (ps_if (pt_not (pt_val (pe_callB call_isi rfl g_isinstance b_isinstance (pa_cons (pv 0) (pa_cons (pe_ty rfl g_str b_str) pa_nil))))) (pss_cons (ps_raise rfl (takes_of rfl rfl rfl rfl) (pmk_x x_BadWord m_BadWord.at_ (fnty m_BadWord.fn) F_BadWord___init__ (hr.mono (by decide)) B_BadWord___init__ passL rfl g_BadWord (pa_cons (pe_un un_neg pe_int) pa_nil))) pss_nil) pss_nil) (pss_cons (ps_for (passes_of rfl) rfl (pi_en rfl g_enumerate (pa_cons (pv 0) pa_nil)) (pg_tup rfl (pgs_cons (pg_name sc.nd (i := 1) rfl loc) (pgs_cons (pg_name sc.nd (i := 2) rfl loc) pgs_nil))) (pss_cons (ps_if (PW.pt (pw_and (pt_cmpR (op_neS hr.units) (pv 2) pe_str (nomark _)) (pw_and1 (pt_cmpR (op_neS hr.units) (pv 2) pe_str (nomark _))))) (pss_cons (ps_raise rfl (takes_of rfl rfl rfl rfl) (pmk_x x_BadWord m_BadWord.at_ (fnty m_BadWord.fn) F_BadWord___init__ (hr.mono (by decide)) B_BadWord___init__ passL rfl g_BadWord (pa_cons (pv 1) pa_nil))) pss_nil) pss_nil) pss_nil)) (pss_cons (ps_ret (pv 0)) pss_nil))),
    (ss_seq (ss_if (st_not (st_v (se_is i_str (se_var 0)))) (ss_seq (ss_raise (c := "BadWord") (sa_cons (se_un o_neg (se_c fun _ => RD.int _)) sa_nil)) ss_next) ss_next) (ss_seq (ss_for (si_en (sa_cons (se_var 0) sa_nil)) (stk_row (sgs_cons (sg_name 1) (sgs_cons (sg_name 2) sgs_nil))) (ss_seq (ss_if (st_and (st_v (se_op (o_ne) (se_var 2) (se_c fun _ => RD.str _))) (st_v (se_op (o_ne) (se_var 2) (se_c fun _ => RD.str _)))) (ss_seq (ss_raise (c := "BadWord") (sa_cons (se_var 1) sa_nil)) ss_next) ss_next) ss_next)) (ss_seq (ss_ret (se_var 0)) ss_next)))⟩
def x_heights : Es := (esSeq (esDrop (evCall r_check_word (eaCons (evVar 0) eaNil))) (esSeq (esAsg (evCall r_check_any_rank (eaCons (evVar 1) eaNil)) (egName 2)) (esSeq (esAsg (evLst true (eaCons (evVar 2) eaNil)) (egName 3)) (esSeq (esFor (eiSeq (evVar 0)) (.one (egName 4)) (esSeq (esAsg (evIf (etV (evBin (gEq) (evVar 4) (evC (.str (PySem.Str.ofString "u"))))) (evBin (gAdd false) (evVar 2) (evC (.int 1))) (evBin (gMinus) (evVar 2) (evC (.int 1)))) (egName 2)) (esSeq (esDrop (evBM isL gAppend (evVar 3) (eaCons (evVar 2) eaNil))) esNext))) (esSeq (esRet (evCB gTuple (eaCons (evVar 3) eaNil))) esNext)))))
abbrev r_heights : G.Run := runF 2 5 x_heights
theorem sc_heights : FnScope ["word", "rank", "height", "row", "letter"] ["word", "rank"] (defScope (top 21)) := ⟨rfl, rfl, rfl, by decide +kernel, rfl, by decide +kernel, by decide +kernel⟩
theorem ok_heights (KB : K.In base) (GB : base.Ns mainGlobals mg) (c : Says ts fn K) : Def P w K mg base 5 (gAt "heights" K) ["word", "rank"] (spF K r_heights) (All K ["word", "rank"]) := by
  obtain ⟨fd, F⟩ := c.def_ 14 (d := d_heights) rfl
  obtain ⟨fd_check_word, F_check_word, B_check_word, P_check_word⟩ := (ok_check_word (P := P) (w := w) KB GB c).ex
  have g_check_word := He.glo_ok KB GB (c.test 17 (t := (He.Fa.glo "check_word").ok) rfl)
  obtain ⟨fd_check_any_rank, F_check_any_rank, B_check_any_rank, P_check_any_rank⟩ := (ok_check_any_rank (P := P) (w := w) KB GB c).ex
  have g_check_any_rank := He.glo_ok KB GB (c.test 15 (t := (He.Fa.glo "check_any_rank").ok) rfl)
  have g_tuple := He.free_ok KB GB (c.test 55 (t := (He.Fa.free "tuple").ok) rfl)
  have sc := sc_heights
  refine ⟨fd, fn_ok F sc 5 rfl fun cdv A outer s H E hr => ?_, F.bindsN fun _ _ _ _ _ _ us hl => match us, hl with | [_, _], _ => rfl, F.kp⟩
  exact ⟨_, (pss_cons (ps_expr (pe_callS F_check_word (hr.mono (by decide)) rfl g_check_word P_check_word B_check_word (fun σ => passAt (takes_of rfl rfl rfl rfl) σ) (pa_cons (pv 0) pa_nil))) (pss_cons (ps_set (i := 2) sc.nd rfl loc (pe_callS F_check_any_rank (hr.mono (by decide)) rfl g_check_any_rank P_check_any_rank B_check_any_rank (fun σ => passAt (takes_of rfl rfl rfl rfl) σ) (pa_cons (pv 1) pa_nil))) (pss_cons (ps_set (i := 3) sc.nd rfl loc (pe_lst (pa_cons (pv 2) pa_nil))) (pss_cons (ps_for (passes_of rfl) rfl (pi_seq (pi_list (pv 0)) (pi_tup (pv 0)) (pi_str (pv 0))) (pg_name sc.nd (i := 4) rfl loc) (pss_cons (ps_set (i := 2) sc.nd rfl loc (pe_ifExp (pt_cmpR (op_eqS hr.units) (pv 4) pe_str (nomark _)) (pe_op op_plus (pv 2) pe_int) (pe_op op_sub (pv 2) pe_int))) (pss_cons (ps_expr (pe_bm PySem.F.plainAttrs_list PySem.F.slot_list_append PySem.F.type_list_append mt_append (pv 3) (pa_cons (pv 2) pa_nil))) pss_nil))) (pss_cons (ps_ret (pe_callTy call_tuple_of rfl g_tuple b_tuple (pa_cons (pv 3) pa_nil))) pss_nil))))),
    (ss_seq (ss_drop (se_call (sa_cons (se_var 0) sa_nil))) (ss_seq (ss_set 2 (se_call (sa_cons (se_var 1) sa_nil))) (ss_seq (ss_set 3 (se_lst true (sa_cons (se_var 2) sa_nil))) (ss_seq (ss_for (si_seq (se_var 0)) (stk_one (sg_name 4)) (ss_seq (ss_set 2 (se_if (st_v (se_op (o_eq) (se_var 4) (se_c fun _ => RD.str _))) (se_op (o_add false) (se_var 2) (se_c fun _ => RD.int _)) (se_op (o_sub) (se_var 2) (se_c fun _ => RD.int _)))) (ss_seq (ss_drop (se_bm ty_list om_append (se_var 3) (sa_cons (se_var 2) sa_nil))) ss_next))) (ss_seq (ss_ret (se_cb oc_tuple (sa_cons (se_var 3) sa_nil))) ss_next)))))⟩
def x_told_pairs : Es := (esSeq (esAsg (evCB gLen (eaCons (evVar 0) eaNil)) (egName 2)) (esSeq (esWhile 1099511627776 (etAnd (etV (evBin (gCmp (fun i j => decide (j < i))) (evVar 2) (evC (.int 0)))) (etV (evBin (gEq) (evCB gTuple (eaCons (evBin gIx (evVar 0) (evBin (gMinus) (evVar 2) (evC (.int 1)))) eaNil)) (evVar 1)))) (esSeq (esAsg (evBin (gMinus) (evVar 2) (evC (.int 1))) (egName 2)) esNext)) (esSeq (esRet (evCall r_frozen (eaCons (evSl false (evVar 0) eoNone (eoSome (evVar 2))) eaNil))) esNext)))
abbrev r_told_pairs : G.Run := runF 2 3 x_told_pairs
theorem sc_told_pairs : FnScope ["pairs", "tail", "many"] ["pairs", "tail"] (defScope (top 23)) := ⟨rfl, rfl, rfl, by decide +kernel, rfl, by decide +kernel, by decide +kernel⟩
theorem ok_told_pairs (KB : K.In base) (GB : base.Ns mainGlobals mg) (c : Says ts fn K) : Def P w K mg base 2 (gAt "told_pairs" K) ["pairs", "tail"] (spF K r_told_pairs) (All K ["pairs", "tail"]) := by
  obtain ⟨fd, F⟩ := c.def_ 15 (d := d_told_pairs) rfl
  have g_len := He.free_ok KB GB (c.test 49 (t := (He.Fa.free "len").ok) rfl)
  have g_tuple := He.free_ok KB GB (c.test 55 (t := (He.Fa.free "tuple").ok) rfl)
  obtain ⟨fd_frozen, F_frozen, B_frozen, P_frozen⟩ := (ok_frozen (P := P) (w := w) KB GB c).ex
  have g_frozen := He.glo_ok KB GB (c.test 14 (t := (He.Fa.glo "frozen").ok) rfl)
  have sc := sc_told_pairs
  refine ⟨fd, fn_ok F sc 3 rfl fun cdv A outer s H E hr => ?_, F.bindsN fun _ _ _ _ _ _ us hl => match us, hl with | [_, _], _ => rfl, F.kp⟩
  exact ⟨_, (pss_cons (ps_set (i := 2) sc.nd rfl loc (pe_callB call_len rfl g_len b_len (pa_cons (pv 0) pa_nil))) (pss_cons (ps_while (passes_of rfl) (PW.pt (pw_and (pt_cmpR op_gt (pv 2) pe_int (nomark _)) (pw_and1 (pt_cmpR (op_eqS hr.units) (pe_callTy call_tuple_of rfl g_tuple b_tuple (pa_cons (pe_ix ix_seq (pv 0) (pe_op op_sub (pv 2) pe_int) (fun _ _ => rfl)) pa_nil)) (pv 1) (nomark _))))) (pss_cons (ps_set (i := 2) sc.nd rfl loc (pe_op op_sub (pv 2) pe_int)) pss_nil)) (pss_cons (ps_ret (pe_callS F_frozen (hr.mono (by decide)) rfl g_frozen P_frozen B_frozen (fun σ => passAt (takes_of rfl rfl rfl rfl) σ) (pa_cons (pe_slice sl_seq (pv 0) po_none (po_some (pv 2))) pa_nil))) pss_nil))),
    (ss_seq (ss_set 2 (se_cb oc_len (sa_cons (se_var 0) sa_nil))) (ss_seq (ss_while _ (st_and (st_v (se_op (o_cmp _) (se_var 2) (se_c fun _ => RD.int _))) (st_v (se_op (o_eq) (se_cb oc_tuple (sa_cons (se_op o_ix (se_var 0) (se_op (o_sub) (se_var 2) (se_c fun _ => RD.int _))) sa_nil)) (se_var 1)))) (ss_seq (ss_set 2 (se_op (o_sub) (se_var 2) (se_c fun _ => RD.int _))) ss_next)) (ss_seq (ss_ret (se_call (sa_cons (se_sl false (se_var 0) so_none (so_some (se_var 2))) sa_nil))) ss_next)))⟩
def x_Numbers___init__ : Es := (esSeq (esIf (etNot (etV (evCall r_is_row (eaCons (evVar 1) eaNil)))) (esSeq (esRaise "BadNumbers" 1 [("at", 0)] (eaCons (evUn gNeg (evC (.int 1))) eaNil)) esNext) esNext) (esSeq (esFor (eiEn (eaCons (evVar 1) eaNil)) (.row 2 (egCons (egName 3) (egCons (egName 4) egNil))) (esSeq (esIf (etNot (etV (evCall r_is_number_pair (eaCons (evVar 4) eaNil)))) (esSeq (esRaise "BadNumbers" 1 [("at", 0)] (eaCons (evVar 3) eaNil)) esNext) esNext) esNext)) (esSeq (esIf (etNot (etV (evCall r_is_number_pair (eaCons (evVar 2) eaNil)))) (esSeq (esRaise "BadNumbers" 1 [("at", 0)] (eaCons (evCB gLen (eaCons (evVar 1) eaNil)) eaNil)) esNext) esNext) (esSeq (esFld "Numbers" "tail" (evVar 0) (evCB gTuple (eaCons (evVar 2) eaNil))) (esSeq (esFld "Numbers" "pairs" (evVar 0) (evCall r_told_pairs (eaCons (evVar 1) (eaCons (evFld ["Numbers"] "tail" (evVar 0)) eaNil)))) esNext)))))
abbrev r_Numbers___init__ : G.Run := runF 3 5 x_Numbers___init__
theorem sc_Numbers___init__ : FnScope ["self", "pairs", "tail", "at", "pair"] ["self", "pairs", "tail"] (defScope (inClass (top 24) 0)) := ⟨rfl, rfl, rfl, by decide +kernel, rfl, by decide +kernel, by decide +kernel⟩
theorem ok_Numbers___init__ (KB : K.In base) (GB : base.Ns mainGlobals mg) (c : Says ts fn K) : Def P w K mg base 5 (mAt "Numbers" "__init__" K) ["self", "pairs", "tail"] (spF K r_Numbers___init__) (Kwd K ["self", "pairs", "tail"] 2 ["tail"]) := by
  obtain ⟨fd, F⟩ := c.def_ 16 (d := d_Numbers___init__) rfl
  obtain ⟨fd_is_row, F_is_row, B_is_row, P_is_row⟩ := (ok_is_row (P := P) (w := w) KB GB c).ex
  have g_is_row := He.glo_ok KB GB (c.test 10 (t := (He.Fa.glo "is_row").ok) rfl)
  obtain ⟨fd_BadNumbers___init__, F_BadNumbers___init__, B_BadNumbers___init__, P_BadNumbers___init__⟩ := (ok_BadNumbers___init__ (P := P) (w := w) KB GB c).ex
  have g_BadNumbers := He.glo_ok KB GB (c.test 7 (t := (He.Fa.glo "BadNumbers").ok) rfl)
  have x_BadNumbers := xcB_ok (c.test 73 (t := xcB "BadNumbers") rfl)
  have m_BadNumbers := He.meth_ok (c.test 75 (t := (He.Fa.meth "BadNumbers" "__init__").ok) rfl)
  have g_enumerate := He.free_ok KB GB (c.test 46 (t := (He.Fa.free "enumerate").ok) rfl)
  obtain ⟨fd_is_number_pair, F_is_number_pair, B_is_number_pair, P_is_number_pair⟩ := (ok_is_number_pair (P := P) (w := w) KB GB c).ex
  have g_is_number_pair := He.glo_ok KB GB (c.test 13 (t := (He.Fa.glo "is_number_pair").ok) rfl)
  have g_len := He.free_ok KB GB (c.test 49 (t := (He.Fa.free "len").ok) rfl)
  have g_tuple := He.free_ok KB GB (c.test 55 (t := (He.Fa.free "tuple").ok) rfl)
  have in_Numbers := insB_ok (c.test 77 (t := insB "Numbers") rfl)
  have n_Numbers_tail := He.noat_ok (c.test 97 (t := (He.Fa.noat "Numbers" "tail").ok) rfl)
  obtain ⟨fd_told_pairs, F_told_pairs, B_told_pairs, P_told_pairs⟩ := (ok_told_pairs (P := P) (w := w) KB GB c).ex
  have g_told_pairs := He.glo_ok KB GB (c.test 19 (t := (He.Fa.glo "told_pairs").ok) rfl)
  have n_Numbers_pairs := He.noat_ok (c.test 96 (t := (He.Fa.noat "Numbers" "pairs").ok) rfl)
  have sc := sc_Numbers___init__
  refine ⟨fd, fn_ok F sc 5 rfl fun cdv A outer s H E hr => ?_, (by
    obtain ⟨mv, h⟩ := F.kbinds0 (ps := ["self", "pairs", "tail"]) 2 ["tail"] [] (fun us _ ws => us ++ ws) (by intro z; cases z) (fun _ z => nomatch z) (fun r1 _ r3 => r1.append r3) fun D doc pm an cdv ct us mv ws l1 l2 l3 => match us, ws, l1, l3 with | [_, _], [_], _, _ => rfl
    exact ⟨_, h⟩), F.kp⟩
  exact ⟨_, (pss_cons (ps_if (pt_not (pt_val (pe_callS F_is_row (hr.mono (by decide)) rfl g_is_row P_is_row B_is_row (fun σ => passAt (takes_of rfl rfl rfl rfl) σ) (pa_cons (pv 1) pa_nil)))) (pss_cons (ps_raise rfl (takes_of rfl rfl rfl rfl) (pmk_x x_BadNumbers m_BadNumbers.at_ (fnty m_BadNumbers.fn) F_BadNumbers___init__ (hr.mono (by decide)) B_BadNumbers___init__ passL rfl g_BadNumbers (pa_cons (pe_un un_neg pe_int) pa_nil))) pss_nil) pss_nil) (pss_cons (ps_for (passes_of rfl) rfl (pi_en rfl g_enumerate (pa_cons (pv 1) pa_nil)) (pg_tup rfl (pgs_cons (pg_name sc.nd (i := 3) rfl loc) (pgs_cons (pg_name sc.nd (i := 4) rfl loc) pgs_nil))) (pss_cons (ps_if (pt_not (pt_val (pe_callS F_is_number_pair (hr.mono (by decide)) rfl g_is_number_pair P_is_number_pair B_is_number_pair (fun σ => passAt (takes_of rfl rfl rfl rfl) σ) (pa_cons (pv 4) pa_nil)))) (pss_cons (ps_raise rfl (takes_of rfl rfl rfl rfl) (pmk_x x_BadNumbers m_BadNumbers.at_ (fnty m_BadNumbers.fn) F_BadNumbers___init__ (hr.mono (by decide)) B_BadNumbers___init__ passL rfl g_BadNumbers (pa_cons (pv 3) pa_nil))) pss_nil) pss_nil) pss_nil)) (pss_cons (ps_if (pt_not (pt_val (pe_callS F_is_number_pair (hr.mono (by decide)) rfl g_is_number_pair P_is_number_pair B_is_number_pair (fun σ => passAt (takes_of rfl rfl rfl rfl) σ) (pa_cons (pv 2) pa_nil)))) (pss_cons (ps_raise rfl (takes_of rfl rfl rfl rfl) (pmk_x x_BadNumbers m_BadNumbers.at_ (fnty m_BadNumbers.fn) F_BadNumbers___init__ (hr.mono (by decide)) B_BadNumbers___init__ passL rfl g_BadNumbers (pa_cons (pe_callB call_len rfl g_len b_len (pa_cons (pv 1) pa_nil)) pa_nil))) pss_nil) pss_nil) (pss_cons (ps_fld (pv 0) (pe_callTy call_tuple_of rfl g_tuple b_tuple (pa_cons (pv 2) pa_nil)) rfl) (pss_cons (ps_fld (pv 0) (pe_callS F_told_pairs (hr.mono (by decide)) rfl g_told_pairs P_told_pairs B_told_pairs (fun σ => passAt (takes_of rfl rfl rfl rfl) σ) (pa_cons (pv 1) (pa_cons (pe_fld (pv 0) rfl) pa_nil))) rfl) pss_nil))))),
    (ss_seq (ss_if (st_not (st_v (se_call (sa_cons (se_var 1) sa_nil)))) (ss_seq (ss_raise (c := "BadNumbers") (sa_cons (se_un o_neg (se_c fun _ => RD.int _)) sa_nil)) ss_next) ss_next) (ss_seq (ss_for (si_en (sa_cons (se_var 1) sa_nil)) (stk_row (sgs_cons (sg_name 3) (sgs_cons (sg_name 4) sgs_nil))) (ss_seq (ss_if (st_not (st_v (se_call (sa_cons (se_var 4) sa_nil)))) (ss_seq (ss_raise (c := "BadNumbers") (sa_cons (se_var 3) sa_nil)) ss_next) ss_next) ss_next)) (ss_seq (ss_if (st_not (st_v (se_call (sa_cons (se_var 2) sa_nil)))) (ss_seq (ss_raise (c := "BadNumbers") (sa_cons (se_cb oc_len (sa_cons (se_var 1) sa_nil)) sa_nil)) ss_next) ss_next) (ss_seq (ss_fld ⟨in_Numbers.cl, n_Numbers_tail⟩ (se_var 0) (se_cb oc_tuple (sa_cons (se_var 2) sa_nil))) (ss_seq (ss_fld ⟨in_Numbers.cl, n_Numbers_pairs⟩ (se_var 0) (se_call (sa_cons (se_var 1) (sa_cons (se_fld (fld1 in_Numbers.cl n_Numbers_tail) (se_var 0)) sa_nil)))) ss_next)))))⟩
def x_Numbers_steady : Es := (esSeq (esRet (evMkL 0 "Numbers" 1 1 r_Numbers___init__ (fun ws zs => ws ++ zs) (eaCons (evLst false eaNil) eaNil) (eaCons (evTup (eaCons (evVar 1) (eaCons (evVar 2) eaNil))) eaNil))) esNext)
abbrev r_Numbers_steady : G.Run := runF 3 3 x_Numbers_steady
theorem sc_Numbers_steady : FnScope ["cls", "q", "r"] ["cls", "q", "r"] (defScope (inClass (top 24) 1)) := ⟨rfl, rfl, rfl, by decide +kernel, rfl, by decide +kernel, by decide +kernel⟩
theorem ok_Numbers_steady (KB : K.In base) (GB : base.Ns mainGlobals mg) (c : Says ts fn K) : Def P w K mg base 7 (cAt "Numbers" "steady" K) ["cls", "q", "r"] (spF K r_Numbers_steady) (All K ["cls", "q", "r"]) := by
  obtain ⟨fd, F⟩ := c.def_ 17 (d := d_Numbers_steady) rfl
  obtain ⟨fd_Numbers___init__, F_Numbers___init__, B_Numbers___init__, P_Numbers___init__⟩ := (ok_Numbers___init__ (P := P) (w := w) KB GB c).ex
  have mk_Numbers := He.mkr_ok (c.test 78 (t := (He.Fa.mkr "Numbers").ok) rfl)
  obtain ⟨gK_Numbers___init__, K_Numbers___init__⟩ := B_Numbers___init__
  have sc := sc_Numbers_steady
  refine ⟨fd, fn_ok F sc 3 rfl fun cdv A outer s H E hr => ?_, F.bindsN fun _ _ _ _ _ _ us hl => match us, hl with | [_, _, _], _ => rfl, F.kp⟩
  exact ⟨_, (pss_cons (ps_ret (pe_mkL (i := 0) mk_Numbers F_Numbers___init__ (hr.mono (by decide)) rfl (Or.inl rfl) K_Numbers___init__ (fun σ => passAt (takes_of rfl rfl rfl rfl) σ) (pa_cons (pe_lst pa_nil) pa_nil) (pk_cons (pe_tup (pa_cons (pv 1) (pa_cons (pv 2) pa_nil))) pk_nil))) pss_nil),
    (ss_seq (ss_ret (se_mkL put1 (sa_cons (se_lst false sa_nil) sa_nil) (sa_cons (se_tup (sa_cons (se_var 1) (sa_cons (se_var 2) sa_nil))) sa_nil))) ss_next)⟩
def x_Numbers_falling : Es := (esSeq (esDrop (evCall r_check_number (eaCons (evC (.str (PySem.Str.ofString "many"))) (eaCons (evVar 1) (eaCons (evC (.int 0)) eaNil))))) (esSeq (esRet (evMkL 0 "Numbers" 1 1 r_Numbers___init__ (fun ws zs => ws ++ zs) (eaCons (evLc false [2] (eiRng1 (eaCons (evBin (gAdd false) (evVar 1) (evC (.int 1))) eaNil)) (.one (egName 2)) etYes (evTup (eaCons (evC (.int 1)) (eaCons (evBin (gMinus) (evVar 1) (evBin (gMul false) (evC (.int 2)) (evVar 2))) eaNil)))) eaNil) (eaCons (evTup (eaCons (evC (.int 1)) (eaCons (evBin (gMinus) (evUn gNeg (evVar 1)) (evC (.int 2))) eaNil))) eaNil))) esNext))
abbrev r_Numbers_falling : G.Run := runF 2 3 x_Numbers_falling
theorem sc_Numbers_falling : FnScope ["cls", "many", "rank"] ["cls", "many"] (defScope (inClass (top 24) 2)) := ⟨rfl, rfl, rfl, by decide +kernel, rfl, by decide +kernel, by decide +kernel⟩
theorem ok_Numbers_falling (KB : K.In base) (GB : base.Ns mainGlobals mg) (c : Says ts fn K) : Def P w K mg base 7 (cAt "Numbers" "falling" K) ["cls", "many"] (spF K r_Numbers_falling) (All K ["cls", "many"]) := by
  obtain ⟨fd, F⟩ := c.def_ 18 (d := d_Numbers_falling) rfl
  obtain ⟨fd_check_number, F_check_number, B_check_number, P_check_number⟩ := (ok_check_number (P := P) (w := w) KB GB c).ex
  have g_check_number := He.glo_ok KB GB (c.test 9 (t := (He.Fa.glo "check_number").ok) rfl)
  obtain ⟨fd_Numbers___init__, F_Numbers___init__, B_Numbers___init__, P_Numbers___init__⟩ := (ok_Numbers___init__ (P := P) (w := w) KB GB c).ex
  have g_range := He.free_ok KB GB (c.test 53 (t := (He.Fa.free "range").ok) rfl)
  have mk_Numbers := He.mkr_ok (c.test 78 (t := (He.Fa.mkr "Numbers").ok) rfl)
  obtain ⟨gK_Numbers___init__, K_Numbers___init__⟩ := B_Numbers___init__
  have sc := sc_Numbers_falling
  refine ⟨fd, fn_ok F sc 3 rfl fun cdv A outer s H E hr => ?_, F.bindsN fun _ _ _ _ _ _ us hl => match us, hl with | [_, _], _ => rfl, F.kp⟩
  exact ⟨_, (pss_cons (ps_expr (pe_callS F_check_number (hr.mono (by decide)) rfl g_check_number P_check_number B_check_number (fun σ => passAt (takes_of rfl rfl rfl rfl) σ) (pa_cons pe_str (pa_cons (pv 1) (pa_cons pe_int pa_nil))))) (pss_cons (ps_ret (pe_mkL (i := 0) mk_Numbers F_Numbers___init__ (hr.mono (by decide)) rfl (Or.inl rfl) K_Numbers___init__ (fun σ => passAt (takes_of rfl rfl rfl rfl) σ) (pa_cons (pe_lc (own := [("rank", 2)]) rfl sc.nd (pi_range1 rfl g_range (pa_cons (pe_op op_plus (pv 1) pe_int) pa_nil)) (show BlkOk ["cls", "many", "rank"] (defScope (inClass (top 24) 2)) _ [("rank", 2)] from ⟨rfl, by decide +kernel, by decide +kernel, by decide +kernel, by decide +kernel⟩) (fun s H C cl fp => (pg_name sc.nd (i := 2) rfl loc)) (fun s H C cl fp => pts_nil) (fun s H C cl fp => (pe_tup (pa_cons pe_int (pa_cons (pe_op op_sub (pv 1) (pe_op op_times pe_int (pv 2))) pa_nil))))) pa_nil) (pk_cons (pe_tup (pa_cons pe_int (pa_cons (pe_op op_sub (pe_un un_neg (pv 1)) pe_int) pa_nil))) pk_nil))) pss_nil)),
    (ss_seq (ss_drop (se_call (sa_cons (se_c fun _ => RD.str _) (sa_cons (se_var 1) (sa_cons (se_c fun _ => RD.int _) sa_nil))))) (ss_seq (ss_ret (se_mkL put1 (sa_cons (se_lc (w' := noX) false (si_rng1 (sa_cons (se_op (o_add false) (se_var 1) (se_c fun _ => RD.int _)) sa_nil)) (stk_one (sg_name 2)) (gw_name (by decide)) etyes (se_tup (sa_cons (se_c fun _ => RD.int _) (sa_cons (se_op (o_sub) (se_var 1) (se_op (o_mul false) (se_c fun _ => RD.int _) (se_var 2))) sa_nil)))) sa_nil) (sa_cons (se_tup (sa_cons (se_c fun _ => RD.int _) (sa_cons (se_op (o_sub) (se_un o_neg (se_var 1)) (se_c fun _ => RD.int _)) sa_nil))) sa_nil))) ss_next))⟩
def x_Numbers___getitem__ : Es := (esSeq (esDrop (evCall r_check_any_rank (eaCons (evVar 1) eaNil))) (esSeq (esRet (evIf (etV (evBin (gCmp (fun i j => decide (i < j))) (evVar 1) (evCB gLen (eaCons (evFld ["Numbers"] "pairs" (evVar 0)) eaNil)))) (evBin gIx (evFld ["Numbers"] "pairs" (evVar 0)) (evVar 1)) (evFld ["Numbers"] "tail" (evVar 0)))) esNext))
abbrev r_Numbers___getitem__ : G.Run := runF 2 2 x_Numbers___getitem__
theorem sc_Numbers___getitem__ : FnScope ["self", "at"] ["self", "at"] (defScope (inClass (top 24) 3)) := ⟨rfl, rfl, rfl, by decide +kernel, rfl, by decide +kernel, by decide +kernel⟩
theorem ok_Numbers___getitem__ (KB : K.In base) (GB : base.Ns mainGlobals mg) (c : Says ts fn K) : Def P w K mg base 5 (mAt "Numbers" "__getitem__" K) ["self", "at"] (spF K r_Numbers___getitem__) (All K ["self", "at"]) := by
  obtain ⟨fd, F⟩ := c.def_ 19 (d := d_Numbers___getitem__) rfl
  obtain ⟨fd_check_any_rank, F_check_any_rank, B_check_any_rank, P_check_any_rank⟩ := (ok_check_any_rank (P := P) (w := w) KB GB c).ex
  have g_check_any_rank := He.glo_ok KB GB (c.test 15 (t := (He.Fa.glo "check_any_rank").ok) rfl)
  have in_Numbers := insB_ok (c.test 77 (t := insB "Numbers") rfl)
  have n_Numbers_pairs := He.noat_ok (c.test 96 (t := (He.Fa.noat "Numbers" "pairs").ok) rfl)
  have g_len := He.free_ok KB GB (c.test 49 (t := (He.Fa.free "len").ok) rfl)
  have n_Numbers_tail := He.noat_ok (c.test 97 (t := (He.Fa.noat "Numbers" "tail").ok) rfl)
  have sc := sc_Numbers___getitem__
  refine ⟨fd, fn_ok F sc 2 rfl fun cdv A outer s H E hr => ?_, F.bindsN fun _ _ _ _ _ _ us hl => match us, hl with | [_, _], _ => rfl, F.kp⟩
  exact ⟨_, (pss_cons (ps_expr (pe_callS F_check_any_rank (hr.mono (by decide)) rfl g_check_any_rank P_check_any_rank B_check_any_rank (fun σ => passAt (takes_of rfl rfl rfl rfl) σ) (pa_cons (pv 1) pa_nil))) (pss_cons (ps_ret (pe_ifExp (pt_cmpR op_lt (pv 1) (pe_callB call_len rfl g_len b_len (pa_cons (pe_fld (pv 0) rfl) pa_nil)) (nomark _)) (pe_ix ix_seq (pe_fld (pv 0) rfl) (pv 1) (fun _ _ => rfl)) (pe_fld (pv 0) rfl))) pss_nil)),
    (ss_seq (ss_drop (se_call (sa_cons (se_var 1) sa_nil))) (ss_seq (ss_ret (se_if (st_v (se_op (o_cmp _) (se_var 1) (se_cb oc_len (sa_cons (se_fld (fld1 in_Numbers.cl n_Numbers_pairs) (se_var 0)) sa_nil)))) (se_op o_ix (se_fld (fld1 in_Numbers.cl n_Numbers_pairs) (se_var 0)) (se_var 1)) (se_fld (fld1 in_Numbers.cl n_Numbers_tail) (se_var 0)))) ss_next))⟩
def x_Numbers___eq__ : Es := (esSeq (esRet (evAnd (evIs T_Numbers (evVar 1)) (evAnd (evBin (gEq) (evFld ["Numbers"] "pairs" (evVar 0)) (evFld ["Numbers"] "pairs" (evVar 1))) (evBin (gEq) (evFld ["Numbers"] "tail" (evVar 0)) (evFld ["Numbers"] "tail" (evVar 1)))))) esNext)
abbrev r_Numbers___eq__ : G.Run := runF 2 2 x_Numbers___eq__
theorem sc_Numbers___eq__ : FnScope ["self", "other"] ["self", "other"] (defScope (inClass (top 24) 5)) := ⟨rfl, rfl, rfl, by decide +kernel, rfl, by decide +kernel, by decide +kernel⟩
theorem ok_Numbers___eq__ (KB : K.In base) (GB : base.Ns mainGlobals mg) (c : Says ts fn K) : Def P w K mg base 1 (mAt "Numbers" "__eq__" K) ["self", "other"] (spF K r_Numbers___eq__) (All K ["self", "other"]) := by
  obtain ⟨fd, F⟩ := c.def_ 21 (d := d_Numbers___eq__) rfl
  have g_isinstance := He.free_ok KB GB (c.test 48 (t := (He.Fa.free "isinstance").ok) rfl)
  have g_Numbers := He.glo_ok KB GB (c.test 20 (t := (He.Fa.glo "Numbers").ok) rfl)
  have i_Numbers := isB_own (c.test 102 (t := isB (fun K => .ref (He.ga K "Numbers")) T_Numbers) rfl)
  have in_Numbers := insB_ok (c.test 77 (t := insB "Numbers") rfl)
  have n_Numbers_pairs := He.noat_ok (c.test 96 (t := (He.Fa.noat "Numbers" "pairs").ok) rfl)
  have n_Numbers_tail := He.noat_ok (c.test 97 (t := (He.Fa.noat "Numbers" "tail").ok) rfl)
  have sc := sc_Numbers___eq__
  refine ⟨fd, fn_ok F sc 2 rfl fun cdv A outer s H E hr => ?_, F.bindsN fun _ _ _ _ _ _ us hl => match us, hl with | [_, _], _ => rfl, F.kp⟩
  exact ⟨_, (pss_cons (ps_ret (pe_and (pe_callB call_isi rfl g_isinstance b_isinstance (pa_cons (pv 1) (pa_cons (pe_cls rfl g_Numbers) pa_nil))) (pe_and (pe_cmpR (op_eqS hr.units) (pe_fld (pv 0) rfl) (pe_fld (pv 1) rfl) (nomark _)) (pe_one (pe_cmpR (op_eqS hr.units) (pe_fld (pv 0) rfl) (pe_fld (pv 1) rfl) (nomark _)))))) pss_nil),
    (ss_seq (ss_ret (se_and (se_is i_Numbers (se_var 1)) (se_and (se_op (o_eq) (se_fld (fld1 in_Numbers.cl n_Numbers_pairs) (se_var 0)) (se_fld (fld1 in_Numbers.cl n_Numbers_pairs) (se_var 1))) (se_op (o_eq) (se_fld (fld1 in_Numbers.cl n_Numbers_tail) (se_var 0)) (se_fld (fld1 in_Numbers.cl n_Numbers_tail) (se_var 1)))))) ss_next)⟩
def x_Numbers_is_positive : Es := (esSeq (esRet (evAnd (evBin (gCmp (fun i j => decide (j ≤ i))) (evBin gIx (evFld ["Numbers"] "tail" (evVar 0)) (evC (.int 1))) (evC (.int 1))) (evCB gAll (eaCons (evLc false [1] (eiSeq (evFld ["Numbers"] "pairs" (evVar 0))) (.one (egName 1)) etYes (evBin (gCmp (fun i j => decide (j ≤ i))) (evBin gIx (evVar 1) (evC (.int 1))) (evC (.int 1)))) eaNil)))) esNext)
abbrev r_Numbers_is_positive : G.Run := runF 1 2 x_Numbers_is_positive
theorem sc_Numbers_is_positive : FnScope ["self", "pair"] ["self"] (defScope (inClass (top 24) 6)) := ⟨rfl, rfl, rfl, by decide +kernel, rfl, by decide +kernel, by decide +kernel⟩
theorem ok_Numbers_is_positive (KB : K.In base) (GB : base.Ns mainGlobals mg) (c : Says ts fn K) : Def P w K mg base 1 (pAt "Numbers" "is_positive" K) ["self"] (spF K r_Numbers_is_positive) (All K ["self"]) := by
  obtain ⟨fd, F⟩ := c.def_ 22 (d := d_Numbers_is_positive) rfl
  have in_Numbers := insB_ok (c.test 77 (t := insB "Numbers") rfl)
  have n_Numbers_tail := He.noat_ok (c.test 97 (t := (He.Fa.noat "Numbers" "tail").ok) rfl)
  have n_Numbers_pairs := He.noat_ok (c.test 96 (t := (He.Fa.noat "Numbers" "pairs").ok) rfl)
  have g_all := He.free_ok KB GB (c.test 44 (t := (He.Fa.free "all").ok) rfl)
  have sc := sc_Numbers_is_positive
  refine ⟨fd, fn_ok F sc 2 rfl fun cdv A outer s H E hr => ?_, F.bindsN fun _ _ _ _ _ _ us hl => match us, hl with | [_], _ => rfl, F.kp⟩
  exact ⟨_, (pss_cons (ps_ret (pe_and (pe_cmpR op_ge (pe_ix ix_seq (pe_fld (pv 0) rfl) pe_int (fun _ _ => rfl)) pe_int (nomark _)) (pe_one (pe_callB (cr_all rfl) rfl g_all b_all (pa_cons (pe_lc (own := [("pair", 1)]) rfl sc.nd (pi_seq (pi_list (pe_fld (pv 0) rfl)) (pi_tup (pe_fld (pv 0) rfl)) (pi_str (pe_fld (pv 0) rfl))) (show BlkOk ["self", "pair"] (defScope (inClass (top 24) 6)) _ [("pair", 1)] from ⟨rfl, by decide +kernel, by decide +kernel, by decide +kernel, by decide +kernel⟩) (fun s H C cl fp => (pg_name sc.nd (i := 1) rfl loc)) (fun s H C cl fp => pts_nil) (fun s H C cl fp => (pe_cmpR op_ge (pe_ix ix_seq (pv 1) pe_int (fun _ _ => rfl)) pe_int (nomark _)))) pa_nil))))) pss_nil),
    (ss_seq (ss_ret (se_and (se_op (o_cmp _) (se_op o_ix (se_fld (fld1 in_Numbers.cl n_Numbers_tail) (se_var 0)) (se_c fun _ => RD.int _)) (se_c fun _ => RD.int _)) (se_cb oc_all (sa_cons (se_lc (w' := noX) false (si_seq (se_fld (fld1 in_Numbers.cl n_Numbers_pairs) (se_var 0))) (stk_one (sg_name 1)) (gw_name (by decide)) etyes (se_op (o_cmp _) (se_op o_ix (se_var 1) (se_c fun _ => RD.int _)) (se_c fun _ => RD.int _))) sa_nil)))) ss_next)⟩
def x_Numbers_is_plain : Es := (esSeq (esRet (evAnd (evBin (gEq) (evBin gIx (evFld ["Numbers"] "tail" (evVar 0)) (evC (.int 0))) (evC (.int 1))) (evCB gAll (eaCons (evLc false [1] (eiSeq (evFld ["Numbers"] "pairs" (evVar 0))) (.one (egName 1)) etYes (evBin (gEq) (evBin gIx (evVar 1) (evC (.int 0))) (evC (.int 1)))) eaNil)))) esNext)
abbrev r_Numbers_is_plain : G.Run := runF 1 2 x_Numbers_is_plain
theorem sc_Numbers_is_plain : FnScope ["self", "pair"] ["self"] (defScope (inClass (top 24) 7)) := ⟨rfl, rfl, rfl, by decide +kernel, rfl, by decide +kernel, by decide +kernel⟩
theorem ok_Numbers_is_plain (KB : K.In base) (GB : base.Ns mainGlobals mg) (c : Says ts fn K) : Def P w K mg base 1 (pAt "Numbers" "is_plain" K) ["self"] (spF K r_Numbers_is_plain) (All K ["self"]) := by
  obtain ⟨fd, F⟩ := c.def_ 23 (d := d_Numbers_is_plain) rfl
  have in_Numbers := insB_ok (c.test 77 (t := insB "Numbers") rfl)
  have n_Numbers_tail := He.noat_ok (c.test 97 (t := (He.Fa.noat "Numbers" "tail").ok) rfl)
  have n_Numbers_pairs := He.noat_ok (c.test 96 (t := (He.Fa.noat "Numbers" "pairs").ok) rfl)
  have g_all := He.free_ok KB GB (c.test 44 (t := (He.Fa.free "all").ok) rfl)
  have sc := sc_Numbers_is_plain
  refine ⟨fd, fn_ok F sc 2 rfl fun cdv A outer s H E hr => ?_, F.bindsN fun _ _ _ _ _ _ us hl => match us, hl with | [_], _ => rfl, F.kp⟩
  exact ⟨_, (pss_cons (ps_ret (pe_and (pe_cmpR (op_eqS hr.units) (pe_ix ix_seq (pe_fld (pv 0) rfl) pe_int (fun _ _ => rfl)) pe_int (nomark _)) (pe_one (pe_callB (cr_all rfl) rfl g_all b_all (pa_cons (pe_lc (own := [("pair", 1)]) rfl sc.nd (pi_seq (pi_list (pe_fld (pv 0) rfl)) (pi_tup (pe_fld (pv 0) rfl)) (pi_str (pe_fld (pv 0) rfl))) (show BlkOk ["self", "pair"] (defScope (inClass (top 24) 7)) _ [("pair", 1)] from ⟨rfl, by decide +kernel, by decide +kernel, by decide +kernel, by decide +kernel⟩) (fun s H C cl fp => (pg_name sc.nd (i := 1) rfl loc)) (fun s H C cl fp => pts_nil) (fun s H C cl fp => (pe_cmpR (op_eqS hr.units) (pe_ix ix_seq (pv 1) pe_int (fun _ _ => rfl)) pe_int (nomark _)))) pa_nil))))) pss_nil),
    (ss_seq (ss_ret (se_and (se_op (o_eq) (se_op o_ix (se_fld (fld1 in_Numbers.cl n_Numbers_tail) (se_var 0)) (se_c fun _ => RD.int _)) (se_c fun _ => RD.int _)) (se_cb oc_all (sa_cons (se_lc (w' := noX) false (si_seq (se_fld (fld1 in_Numbers.cl n_Numbers_pairs) (se_var 0))) (stk_one (sg_name 1)) (gw_name (by decide)) etyes (se_op (o_eq) (se_op o_ix (se_var 1) (se_c fun _ => RD.int _)) (se_c fun _ => RD.int _))) sa_nil)))) ss_next)⟩
def x_Numbers_gain : Es := (esSeq (esDrop (evCall r_check_any_rank (eaCons (evVar 1) eaNil))) (esSeq (esDrop (evCall r_check_number (eaCons (evC (.str (PySem.Str.ofString "steps"))) (eaCons (evVar 2) (eaCons (evC (.int 0)) eaNil))))) (esSeq (esAsg (evC (.int 0)) (egName 3)) (esSeq (esFor (eiRng2 (eaCons (evVar 1) (eaCons (evBin (gAdd false) (evVar 1) (evVar 2)) eaNil))) (.one (egName 4)) (esSeq (esAsg (evSubO "Numbers" r_Numbers___getitem__ (evVar 0) (evVar 4)) (egTup 2 (egCons (egName 5) (egCons (egName 6) egNil)))) (esSeq (esAsg (evBin (gAdd false) (evBin (gMul false) (evVar 5) (evVar 3)) (evVar 6)) (egName 3)) esNext))) (esSeq (esRet (evVar 3)) esNext)))))
abbrev r_Numbers_gain : G.Run := runF 3 7 x_Numbers_gain
theorem sc_Numbers_gain : FnScope ["self", "start", "steps", "value", "rank", "q", "r"] ["self", "start", "steps"] (defScope (inClass (top 24) 8)) := ⟨rfl, rfl, rfl, by decide +kernel, rfl, by decide +kernel, by decide +kernel⟩
theorem ok_Numbers_gain (KB : K.In base) (GB : base.Ns mainGlobals mg) (c : Says ts fn K) : Def P w K mg base 7 (mAt "Numbers" "gain" K) ["self", "start", "steps"] (spF K r_Numbers_gain) (All K ["self", "start", "steps"]) := by
  obtain ⟨fd, F⟩ := c.def_ 24 (d := d_Numbers_gain) rfl
  obtain ⟨fd_check_any_rank, F_check_any_rank, B_check_any_rank, P_check_any_rank⟩ := (ok_check_any_rank (P := P) (w := w) KB GB c).ex
  have g_check_any_rank := He.glo_ok KB GB (c.test 15 (t := (He.Fa.glo "check_any_rank").ok) rfl)
  obtain ⟨fd_check_number, F_check_number, B_check_number, P_check_number⟩ := (ok_check_number (P := P) (w := w) KB GB c).ex
  have g_check_number := He.glo_ok KB GB (c.test 9 (t := (He.Fa.glo "check_number").ok) rfl)
  have g_range := He.free_ok KB GB (c.test 53 (t := (He.Fa.free "range").ok) rfl)
  obtain ⟨fd_Numbers___getitem__, F_Numbers___getitem__, B_Numbers___getitem__, P_Numbers___getitem__⟩ := (ok_Numbers___getitem__ (P := P) (w := w) KB GB c).ex
  have it_Numbers := itemB_ok (c.test 83 (t := itemB "Numbers") rfl)
  have sc := sc_Numbers_gain
  refine ⟨fd, fn_ok F sc 7 rfl fun cdv A outer s H E hr => ?_, F.bindsN fun _ _ _ _ _ _ us hl => match us, hl with | [_, _, _], _ => rfl, F.kp⟩
  exact ⟨_, (pss_cons (ps_expr (pe_callS F_check_any_rank (hr.mono (by decide)) rfl g_check_any_rank P_check_any_rank B_check_any_rank (fun σ => passAt (takes_of rfl rfl rfl rfl) σ) (pa_cons (pv 1) pa_nil))) (pss_cons (ps_expr (pe_callS F_check_number (hr.mono (by decide)) rfl g_check_number P_check_number B_check_number (fun σ => passAt (takes_of rfl rfl rfl rfl) σ) (pa_cons pe_str (pa_cons (pv 2) (pa_cons pe_int pa_nil))))) (pss_cons (ps_set (i := 3) sc.nd rfl loc pe_int) (pss_cons (ps_for (passes_of rfl) rfl (pi_range2 rfl g_range (pa_cons (pv 1) (pa_cons (pe_op op_plus (pv 1) (pv 2)) pa_nil))) (pg_name sc.nd (i := 4) rfl loc) (pss_cons (ps_asg (pe_subO (pv 0) (pv 4) it_Numbers.1 it_Numbers.2.1 it_Numbers.2.2 F_Numbers___getitem__ (hr.mono (by decide)) B_Numbers___getitem__ (fun σ => passAt (takes_of rfl rfl rfl rfl) σ)) (pg_tup rfl (pgs_cons (pg_name sc.nd (i := 5) rfl loc) (pgs_cons (pg_name sc.nd (i := 6) rfl loc) pgs_nil)))) (pss_cons (ps_set (i := 3) sc.nd rfl loc (pe_op op_plus (pe_op op_times (pv 5) (pv 3)) (pv 6))) pss_nil))) (pss_cons (ps_ret (pv 3)) pss_nil))))),
    (ss_seq (ss_drop (se_call (sa_cons (se_var 1) sa_nil))) (ss_seq (ss_drop (se_call (sa_cons (se_c fun _ => RD.str _) (sa_cons (se_var 2) (sa_cons (se_c fun _ => RD.int _) sa_nil))))) (ss_seq (ss_set 3 (se_c fun _ => RD.int _)) (ss_seq (ss_for (si_rng2 (sa_cons (se_var 1) (sa_cons (se_op (o_add false) (se_var 1) (se_var 2)) sa_nil))) (stk_one (sg_name 4)) (ss_seq (ss_asg (se_subO (se_var 0) (se_var 4)) (sg_tup (sgs_cons (sg_name 5) (sgs_cons (sg_name 6) sgs_nil)))) (ss_seq (ss_set 3 (se_op (o_add false) (se_op (o_mul false) (se_var 5) (se_var 3)) (se_var 6))) ss_next))) (ss_seq (ss_ret (se_var 3)) ss_next)))))⟩
def x_Numbers_gains : Es := (esSeq (esDrop (evCall r_check_any_rank (eaCons (evVar 1) eaNil))) (esSeq (esDrop (evCall r_check_number (eaCons (evC (.str (PySem.Str.ofString "steps"))) (eaCons (evVar 2) (eaCons (evC (.int 0)) eaNil))))) (esSeq (esAsg (evC (.int 0)) (egName 3)) (esSeq (esAsg (evC (.int 1)) (egName 4)) (esSeq (esFor (eiRng2 (eaCons (evVar 1) (eaCons (evBin (gAdd false) (evVar 1) (evVar 2)) eaNil))) (.one (egName 5)) (esSeq (esAsg (evSubO "Numbers" r_Numbers___getitem__ (evVar 0) (evVar 5)) (egTup 2 (egCons (egName 6) (egCons (egName 7) egNil)))) (esSeq (esAsg (evBin (gAdd false) (evBin (gMul false) (evVar 6) (evVar 3)) (evVar 7)) (egName 3)) (esSeq (esAsg (evBin (gMul false) (evVar 4) (evVar 3)) (egName 4)) esNext)))) (esSeq (esRet (evVar 4)) esNext))))))
abbrev r_Numbers_gains : G.Run := runF 3 8 x_Numbers_gains
theorem sc_Numbers_gains : FnScope ["self", "start", "steps", "value", "many", "rank", "q", "r"] ["self", "start", "steps"] (defScope (inClass (top 24) 9)) := ⟨rfl, rfl, rfl, by decide +kernel, rfl, by decide +kernel, by decide +kernel⟩
theorem ok_Numbers_gains (KB : K.In base) (GB : base.Ns mainGlobals mg) (c : Says ts fn K) : Def P w K mg base 7 (mAt "Numbers" "gains" K) ["self", "start", "steps"] (spF K r_Numbers_gains) (All K ["self", "start", "steps"]) := by
  obtain ⟨fd, F⟩ := c.def_ 25 (d := d_Numbers_gains) rfl
  obtain ⟨fd_check_any_rank, F_check_any_rank, B_check_any_rank, P_check_any_rank⟩ := (ok_check_any_rank (P := P) (w := w) KB GB c).ex
  have g_check_any_rank := He.glo_ok KB GB (c.test 15 (t := (He.Fa.glo "check_any_rank").ok) rfl)
  obtain ⟨fd_check_number, F_check_number, B_check_number, P_check_number⟩ := (ok_check_number (P := P) (w := w) KB GB c).ex
  have g_check_number := He.glo_ok KB GB (c.test 9 (t := (He.Fa.glo "check_number").ok) rfl)
  have g_range := He.free_ok KB GB (c.test 53 (t := (He.Fa.free "range").ok) rfl)
  obtain ⟨fd_Numbers___getitem__, F_Numbers___getitem__, B_Numbers___getitem__, P_Numbers___getitem__⟩ := (ok_Numbers___getitem__ (P := P) (w := w) KB GB c).ex
  have it_Numbers := itemB_ok (c.test 83 (t := itemB "Numbers") rfl)
  have sc := sc_Numbers_gains
  refine ⟨fd, fn_ok F sc 8 rfl fun cdv A outer s H E hr => ?_, F.bindsN fun _ _ _ _ _ _ us hl => match us, hl with | [_, _, _], _ => rfl, F.kp⟩
  exact ⟨_, (pss_cons (ps_expr (pe_callS F_check_any_rank (hr.mono (by decide)) rfl g_check_any_rank P_check_any_rank B_check_any_rank (fun σ => passAt (takes_of rfl rfl rfl rfl) σ) (pa_cons (pv 1) pa_nil))) (pss_cons (ps_expr (pe_callS F_check_number (hr.mono (by decide)) rfl g_check_number P_check_number B_check_number (fun σ => passAt (takes_of rfl rfl rfl rfl) σ) (pa_cons pe_str (pa_cons (pv 2) (pa_cons pe_int pa_nil))))) (pss_cons (ps_set (i := 3) sc.nd rfl loc pe_int) (pss_cons (ps_set (i := 4) sc.nd rfl loc pe_int) (pss_cons (ps_for (passes_of rfl) rfl (pi_range2 rfl g_range (pa_cons (pv 1) (pa_cons (pe_op op_plus (pv 1) (pv 2)) pa_nil))) (pg_name sc.nd (i := 5) rfl loc) (pss_cons (ps_asg (pe_subO (pv 0) (pv 5) it_Numbers.1 it_Numbers.2.1 it_Numbers.2.2 F_Numbers___getitem__ (hr.mono (by decide)) B_Numbers___getitem__ (fun σ => passAt (takes_of rfl rfl rfl rfl) σ)) (pg_tup rfl (pgs_cons (pg_name sc.nd (i := 6) rfl loc) (pgs_cons (pg_name sc.nd (i := 7) rfl loc) pgs_nil)))) (pss_cons (ps_set (i := 3) sc.nd rfl loc (pe_op op_plus (pe_op op_times (pv 6) (pv 3)) (pv 7))) (pss_cons (ps_set (i := 4) sc.nd rfl loc (pe_op op_times (pv 4) (pv 3))) pss_nil)))) (pss_cons (ps_ret (pv 4)) pss_nil)))))),
    (ss_seq (ss_drop (se_call (sa_cons (se_var 1) sa_nil))) (ss_seq (ss_drop (se_call (sa_cons (se_c fun _ => RD.str _) (sa_cons (se_var 2) (sa_cons (se_c fun _ => RD.int _) sa_nil))))) (ss_seq (ss_set 3 (se_c fun _ => RD.int _)) (ss_seq (ss_set 4 (se_c fun _ => RD.int _)) (ss_seq (ss_for (si_rng2 (sa_cons (se_var 1) (sa_cons (se_op (o_add false) (se_var 1) (se_var 2)) sa_nil))) (stk_one (sg_name 5)) (ss_seq (ss_asg (se_subO (se_var 0) (se_var 5)) (sg_tup (sgs_cons (sg_name 6) (sgs_cons (sg_name 7) sgs_nil)))) (ss_seq (ss_set 3 (se_op (o_add false) (se_op (o_mul false) (se_var 6) (se_var 3)) (se_var 7))) (ss_seq (ss_set 4 (se_op (o_mul false) (se_var 4) (se_var 3))) ss_next)))) (ss_seq (ss_ret (se_var 4)) ss_next))))))⟩
def x_Numbers_swaps : Es := (esSeq (esDrop (evCall r_check_any_rank (eaCons (evVar 1) eaNil))) (esSeq (esDrop (evCall r_check_number (eaCons (evC (.str (PySem.Str.ofString "steps"))) (eaCons (evVar 2) (eaCons (evC (.int 0)) eaNil))))) (esSeq (esAsg (evC (.int 1)) (egName 3)) (esSeq (esFor (eiRng2 (eaCons (evVar 1) (eaCons (evBin (gAdd false) (evVar 1) (evVar 2)) eaNil))) (.one (egName 4)) (esSeq (esAsg (evBin (gMul false) (evVar 3) (evBin gIx (evSubO "Numbers" r_Numbers___getitem__ (evVar 0) (evVar 4)) (evC (.int 0)))) (egName 3)) esNext)) (esSeq (esRet (evVar 3)) esNext)))))
abbrev r_Numbers_swaps : G.Run := runF 3 5 x_Numbers_swaps
theorem sc_Numbers_swaps : FnScope ["self", "start", "steps", "many", "rank"] ["self", "start", "steps"] (defScope (inClass (top 24) 10)) := ⟨rfl, rfl, rfl, by decide +kernel, rfl, by decide +kernel, by decide +kernel⟩
theorem ok_Numbers_swaps (KB : K.In base) (GB : base.Ns mainGlobals mg) (c : Says ts fn K) : Def P w K mg base 7 (mAt "Numbers" "swaps" K) ["self", "start", "steps"] (spF K r_Numbers_swaps) (All K ["self", "start", "steps"]) := by
  obtain ⟨fd, F⟩ := c.def_ 26 (d := d_Numbers_swaps) rfl
  obtain ⟨fd_check_any_rank, F_check_any_rank, B_check_any_rank, P_check_any_rank⟩ := (ok_check_any_rank (P := P) (w := w) KB GB c).ex
  have g_check_any_rank := He.glo_ok KB GB (c.test 15 (t := (He.Fa.glo "check_any_rank").ok) rfl)
  obtain ⟨fd_check_number, F_check_number, B_check_number, P_check_number⟩ := (ok_check_number (P := P) (w := w) KB GB c).ex
  have g_check_number := He.glo_ok KB GB (c.test 9 (t := (He.Fa.glo "check_number").ok) rfl)
  have g_range := He.free_ok KB GB (c.test 53 (t := (He.Fa.free "range").ok) rfl)
  obtain ⟨fd_Numbers___getitem__, F_Numbers___getitem__, B_Numbers___getitem__, P_Numbers___getitem__⟩ := (ok_Numbers___getitem__ (P := P) (w := w) KB GB c).ex
  have it_Numbers := itemB_ok (c.test 83 (t := itemB "Numbers") rfl)
  have sc := sc_Numbers_swaps
  refine ⟨fd, fn_ok F sc 5 rfl fun cdv A outer s H E hr => ?_, F.bindsN fun _ _ _ _ _ _ us hl => match us, hl with | [_, _, _], _ => rfl, F.kp⟩
  exact ⟨_, (pss_cons (ps_expr (pe_callS F_check_any_rank (hr.mono (by decide)) rfl g_check_any_rank P_check_any_rank B_check_any_rank (fun σ => passAt (takes_of rfl rfl rfl rfl) σ) (pa_cons (pv 1) pa_nil))) (pss_cons (ps_expr (pe_callS F_check_number (hr.mono (by decide)) rfl g_check_number P_check_number B_check_number (fun σ => passAt (takes_of rfl rfl rfl rfl) σ) (pa_cons pe_str (pa_cons (pv 2) (pa_cons pe_int pa_nil))))) (pss_cons (ps_set (i := 3) sc.nd rfl loc pe_int) (pss_cons (ps_for (passes_of rfl) rfl (pi_range2 rfl g_range (pa_cons (pv 1) (pa_cons (pe_op op_plus (pv 1) (pv 2)) pa_nil))) (pg_name sc.nd (i := 4) rfl loc) (pss_cons (ps_set (i := 3) sc.nd rfl loc (pe_op op_times (pv 3) (pe_ix ix_seq (pe_subO (pv 0) (pv 4) it_Numbers.1 it_Numbers.2.1 it_Numbers.2.2 F_Numbers___getitem__ (hr.mono (by decide)) B_Numbers___getitem__ (fun σ => passAt (takes_of rfl rfl rfl rfl) σ)) pe_int (fun _ _ => rfl)))) pss_nil)) (pss_cons (ps_ret (pv 3)) pss_nil))))),
    (ss_seq (ss_drop (se_call (sa_cons (se_var 1) sa_nil))) (ss_seq (ss_drop (se_call (sa_cons (se_c fun _ => RD.str _) (sa_cons (se_var 2) (sa_cons (se_c fun _ => RD.int _) sa_nil))))) (ss_seq (ss_set 3 (se_c fun _ => RD.int _)) (ss_seq (ss_for (si_rng2 (sa_cons (se_var 1) (sa_cons (se_op (o_add false) (se_var 1) (se_var 2)) sa_nil))) (stk_one (sg_name 4)) (ss_seq (ss_set 3 (se_op (o_mul false) (se_var 3) (se_op o_ix (se_subO (se_var 0) (se_var 4)) (se_c fun _ => RD.int _)))) ss_next)) (ss_seq (ss_ret (se_var 3)) ss_next)))))⟩
def x_Numbers_val : Es := (esSeq (esDrop (evCall r_check_any_rank (eaCons (evVar 1) eaNil))) (esSeq (esDrop (evCall r_check_rank_from (eaCons (evVar 2) (eaCons (evVar 1) eaNil)))) (esSeq (esDrop (evCall r_check_word (eaCons (evVar 3) eaNil))) (esSeq (esAsg (evC (.int 1)) (egName 4)) (esSeq (esFor (eiZp (eaCons (evCall r_heights (eaCons (evVar 3) (eaCons (evVar 2) eaNil))) (eaCons (evVar 3) eaNil))) (.row 2 (egCons (egName 5) (egCons (egName 6) egNil))) (esSeq (esIf (etV (evBin (gEq) (evVar 6) (evC (.str (PySem.Str.ofString "d"))))) (esSeq (esAsg (evBin (gMul false) (evVar 4) (evIf (etV (evBin (gCmp (fun i j => decide (j < i))) (evVar 5) (evVar 1))) (evMe "Numbers" "gain" r_Numbers_gain [] (evVar 0) (eaCons (evVar 1) (eaCons (evBin (gMinus) (evVar 5) (evVar 1)) eaNil))) (evC (.int 0)))) (egName 4)) esNext) esNext) esNext)) (esSeq (esRet (evVar 4)) esNext))))))
abbrev r_Numbers_val : G.Run := runF 4 7 x_Numbers_val
theorem sc_Numbers_val : FnScope ["self", "start", "rank", "word", "value", "height", "letter"] ["self", "start", "rank", "word"] (defScope (inClass (top 24) 11)) := ⟨rfl, rfl, rfl, by decide +kernel, rfl, by decide +kernel, by decide +kernel⟩
theorem ok_Numbers_val (KB : K.In base) (GB : base.Ns mainGlobals mg) (c : Says ts fn K) : Def P w K mg base 8 (mAt "Numbers" "val" K) ["self", "start", "rank", "word"] (spF K r_Numbers_val) (All K ["self", "start", "rank", "word"]) := by
  obtain ⟨fd, F⟩ := c.def_ 27 (d := d_Numbers_val) rfl
  obtain ⟨fd_check_any_rank, F_check_any_rank, B_check_any_rank, P_check_any_rank⟩ := (ok_check_any_rank (P := P) (w := w) KB GB c).ex
  have g_check_any_rank := He.glo_ok KB GB (c.test 15 (t := (He.Fa.glo "check_any_rank").ok) rfl)
  obtain ⟨fd_check_rank_from, F_check_rank_from, B_check_rank_from, P_check_rank_from⟩ := (ok_check_rank_from (P := P) (w := w) KB GB c).ex
  have g_check_rank_from := He.glo_ok KB GB (c.test 16 (t := (He.Fa.glo "check_rank_from").ok) rfl)
  obtain ⟨fd_check_word, F_check_word, B_check_word, P_check_word⟩ := (ok_check_word (P := P) (w := w) KB GB c).ex
  have g_check_word := He.glo_ok KB GB (c.test 17 (t := (He.Fa.glo "check_word").ok) rfl)
  obtain ⟨fd_heights, F_heights, B_heights, P_heights⟩ := (ok_heights (P := P) (w := w) KB GB c).ex
  have g_heights := He.glo_ok KB GB (c.test 18 (t := (He.Fa.glo "heights").ok) rfl)
  have g_zip := He.free_ok KB GB (c.test 56 (t := (He.Fa.free "zip").ok) rfl)
  obtain ⟨fd_Numbers_gain, F_Numbers_gain, B_Numbers_gain, P_Numbers_gain⟩ := (ok_Numbers_gain (P := P) (w := w) KB GB c).ex
  have in_Numbers := insB_ok (c.test 77 (t := insB "Numbers") rfl)
  have mt_Numbers_gain := He.meth_ok (c.test 87 (t := (He.Fa.meth "Numbers" "gain").ok) rfl)
  have sc := sc_Numbers_val
  refine ⟨fd, fn_ok F sc 7 rfl fun cdv A outer s H E hr => ?_, F.bindsN fun _ _ _ _ _ _ us hl => match us, hl with | [_, _, _, _], _ => rfl, F.kp⟩
  exact ⟨_, (pss_cons (ps_expr (pe_callS F_check_any_rank (hr.mono (by decide)) rfl g_check_any_rank P_check_any_rank B_check_any_rank (fun σ => passAt (takes_of rfl rfl rfl rfl) σ) (pa_cons (pv 1) pa_nil))) (pss_cons (ps_expr (pe_callS F_check_rank_from (hr.mono (by decide)) rfl g_check_rank_from P_check_rank_from B_check_rank_from (fun σ => passAt (takes_of rfl rfl rfl rfl) σ) (pa_cons (pv 2) (pa_cons (pv 1) pa_nil)))) (pss_cons (ps_expr (pe_callS F_check_word (hr.mono (by decide)) rfl g_check_word P_check_word B_check_word (fun σ => passAt (takes_of rfl rfl rfl rfl) σ) (pa_cons (pv 3) pa_nil))) (pss_cons (ps_set (i := 4) sc.nd rfl loc pe_int) (pss_cons (ps_for (passes_of rfl) rfl (pi_zp rfl g_zip (pa_cons (pe_callS F_heights (hr.mono (by decide)) rfl g_heights P_heights B_heights (fun σ => passAt (takes_of rfl rfl rfl rfl) σ) (pa_cons (pv 3) (pa_cons (pv 2) pa_nil))) (pa_cons (pv 3) pa_nil))) (pg_tup rfl (pgs_cons (pg_name sc.nd (i := 5) rfl loc) (pgs_cons (pg_name sc.nd (i := 6) rfl loc) pgs_nil))) (pss_cons (ps_if (pt_cmpR (op_eqS hr.units) (pv 6) pe_str (nomark _)) (pss_cons (ps_set (i := 4) sc.nd rfl loc (pe_op op_times (pv 4) (pe_ifExp (pt_cmpR op_gt (pv 5) (pv 1) (nomark _)) (pe_me (pv 0) in_Numbers.cl mt_Numbers_gain F_Numbers_gain (hr.mono (by decide)) B_Numbers_gain .nil (fun σ => passAt (takes_of rfl rfl rfl rfl) σ) (pa_cons (pv 1) (pa_cons (pe_op op_sub (pv 5) (pv 1)) pa_nil))) pe_int))) pss_nil) pss_nil) pss_nil)) (pss_cons (ps_ret (pv 4)) pss_nil)))))),
    (ss_seq (ss_drop (se_call (sa_cons (se_var 1) sa_nil))) (ss_seq (ss_drop (se_call (sa_cons (se_var 2) (sa_cons (se_var 1) sa_nil)))) (ss_seq (ss_drop (se_call (sa_cons (se_var 3) sa_nil))) (ss_seq (ss_set 4 (se_c fun _ => RD.int _)) (ss_seq (ss_for (si_zp (sa_cons (se_call (sa_cons (se_var 3) (sa_cons (se_var 2) sa_nil))) (sa_cons (se_var 3) sa_nil))) (stk_row (sgs_cons (sg_name 5) (sgs_cons (sg_name 6) sgs_nil))) (ss_seq (ss_if (st_v (se_op (o_eq) (se_var 6) (se_c fun _ => RD.str _))) (ss_seq (ss_set 4 (se_op (o_mul false) (se_var 4) (se_if (st_v (se_op (o_cmp _) (se_var 5) (se_var 1))) (se_me (fun _ => .nil) (se_var 0) (sa_cons (se_var 1) (sa_cons (se_op (o_sub) (se_var 5) (se_var 1)) sa_nil))) (se_c fun _ => RD.int _)))) ss_next) ss_next) ss_next)) (ss_seq (ss_ret (se_var 4)) ss_next))))))⟩
def x_Numbers_changed : Es := (esSeq (esDrop (evCall r_check_any_rank (eaCons (evVar 1) eaNil))) (esSeq (esIf (etNot (etV (evCall r_is_number_pair (eaCons (evVar 2) eaNil)))) (esSeq (esRaise "BadNumbers" 1 [("at", 0)] (eaCons (evVar 1) eaNil)) esNext) esNext) (esSeq (esAsg (evLc true [4] (eiRng1 (eaCons (evCB gMax2 (eaCons (evBin (gAdd false) (evVar 1) (evC (.int 1))) (eaCons (evCB gLen (eaCons (evFld ["Numbers"] "pairs" (evVar 0)) eaNil)) eaNil))) eaNil)) (.one (egName 4)) etYes (evSubO "Numbers" r_Numbers___getitem__ (evVar 0) (evVar 4))) (egName 3)) (esSeq (esAsg (evVar 2) (egSub (evVar 3) (evVar 1))) (esSeq (esRet (evMk "Numbers" 1 1 r_Numbers___init__ (fun ws zs => ws ++ zs) (eaCons (evVar 3) eaNil) (eaCons (evFld ["Numbers"] "tail" (evVar 0)) eaNil))) esNext)))))
abbrev r_Numbers_changed : G.Run := runF 3 5 x_Numbers_changed
theorem sc_Numbers_changed : FnScope ["self", "rank", "pair", "pairs", "at"] ["self", "rank", "pair"] (defScope (inClass (top 24) 12)) := ⟨rfl, rfl, rfl, by decide +kernel, rfl, by decide +kernel, by decide +kernel⟩
theorem ok_Numbers_changed (KB : K.In base) (GB : base.Ns mainGlobals mg) (c : Says ts fn K) : Def P w K mg base 7 (mAt "Numbers" "changed" K) ["self", "rank", "pair"] (spF K r_Numbers_changed) (All K ["self", "rank", "pair"]) := by
  obtain ⟨fd, F⟩ := c.def_ 28 (d := d_Numbers_changed) rfl
  obtain ⟨fd_check_any_rank, F_check_any_rank, B_check_any_rank, P_check_any_rank⟩ := (ok_check_any_rank (P := P) (w := w) KB GB c).ex
  have g_check_any_rank := He.glo_ok KB GB (c.test 15 (t := (He.Fa.glo "check_any_rank").ok) rfl)
  obtain ⟨fd_is_number_pair, F_is_number_pair, B_is_number_pair, P_is_number_pair⟩ := (ok_is_number_pair (P := P) (w := w) KB GB c).ex
  have g_is_number_pair := He.glo_ok KB GB (c.test 13 (t := (He.Fa.glo "is_number_pair").ok) rfl)
  obtain ⟨fd_BadNumbers___init__, F_BadNumbers___init__, B_BadNumbers___init__, P_BadNumbers___init__⟩ := (ok_BadNumbers___init__ (P := P) (w := w) KB GB c).ex
  have g_BadNumbers := He.glo_ok KB GB (c.test 7 (t := (He.Fa.glo "BadNumbers").ok) rfl)
  have x_BadNumbers := xcB_ok (c.test 73 (t := xcB "BadNumbers") rfl)
  have m_BadNumbers := He.meth_ok (c.test 75 (t := (He.Fa.meth "BadNumbers" "__init__").ok) rfl)
  have in_Numbers := insB_ok (c.test 77 (t := insB "Numbers") rfl)
  have n_Numbers_pairs := He.noat_ok (c.test 96 (t := (He.Fa.noat "Numbers" "pairs").ok) rfl)
  have g_len := He.free_ok KB GB (c.test 49 (t := (He.Fa.free "len").ok) rfl)
  have g_max := He.free_ok KB GB (c.test 51 (t := (He.Fa.free "max").ok) rfl)
  have g_range := He.free_ok KB GB (c.test 53 (t := (He.Fa.free "range").ok) rfl)
  obtain ⟨fd_Numbers___getitem__, F_Numbers___getitem__, B_Numbers___getitem__, P_Numbers___getitem__⟩ := (ok_Numbers___getitem__ (P := P) (w := w) KB GB c).ex
  have it_Numbers := itemB_ok (c.test 83 (t := itemB "Numbers") rfl)
  obtain ⟨fd_Numbers___init__, F_Numbers___init__, B_Numbers___init__, P_Numbers___init__⟩ := (ok_Numbers___init__ (P := P) (w := w) KB GB c).ex
  have n_Numbers_tail := He.noat_ok (c.test 97 (t := (He.Fa.noat "Numbers" "tail").ok) rfl)
  have mk_Numbers := He.mkr_ok (c.test 78 (t := (He.Fa.mkr "Numbers").ok) rfl)
  obtain ⟨gK_Numbers___init__, K_Numbers___init__⟩ := B_Numbers___init__
  have g_Numbers := He.glo_ok KB GB (c.test 20 (t := (He.Fa.glo "Numbers").ok) rfl)
  have sc := sc_Numbers_changed
  refine ⟨fd, fn_ok F sc 5 rfl fun cdv A outer s H E hr => ?_, F.bindsN fun _ _ _ _ _ _ us hl => match us, hl with | [_, _, _], _ => rfl, F.kp⟩
  exact ⟨_, (pss_cons (ps_expr (pe_callS F_check_any_rank (hr.mono (by decide)) rfl g_check_any_rank P_check_any_rank B_check_any_rank (fun σ => passAt (takes_of rfl rfl rfl rfl) σ) (pa_cons (pv 1) pa_nil))) (pss_cons (ps_if (pt_not (pt_val (pe_callS F_is_number_pair (hr.mono (by decide)) rfl g_is_number_pair P_is_number_pair B_is_number_pair (fun σ => passAt (takes_of rfl rfl rfl rfl) σ) (pa_cons (pv 2) pa_nil)))) (pss_cons (ps_raise rfl (takes_of rfl rfl rfl rfl) (pmk_x x_BadNumbers m_BadNumbers.at_ (fnty m_BadNumbers.fn) F_BadNumbers___init__ (hr.mono (by decide)) B_BadNumbers___init__ passL rfl g_BadNumbers (pa_cons (pv 1) pa_nil))) pss_nil) pss_nil) (pss_cons (ps_setLc (i := 3) (own := [("at", 4)]) rfl sc.nd rfl rfl rfl (pi_range1 rfl g_range (pa_cons (pe_callB (call_max2 rfl) rfl g_max b_max (pa_cons (pe_op op_plus (pv 1) pe_int) (pa_cons (pe_callB call_len rfl g_len b_len (pa_cons (pe_fld (pv 0) rfl) pa_nil)) pa_nil))) pa_nil)) (show BlkOk ["self", "rank", "pair", "pairs", "at"] (defScope (inClass (top 24) 12)) _ [("at", 4)] from ⟨rfl, by decide +kernel, by decide +kernel, by decide +kernel, by decide +kernel⟩) (fun s H C cl fp => (pg_name sc.nd (i := 4) rfl loc)) (fun s H C cl fp => pts_nil) (fun s H C cl fp => (pe_subO (pv 0) (pv 4) it_Numbers.1 it_Numbers.2.1 it_Numbers.2.2 F_Numbers___getitem__ (hr.mono (by decide)) B_Numbers___getitem__ (fun σ => passAt takes0 σ)))) (pss_cons (ps_asg (pv 2) (pg_sub (pv 3) (pv 1) set_list)) (pss_cons (ps_ret (pe_mkS mk_Numbers F_Numbers___init__ (hr.mono (by decide)) rfl g_Numbers K_Numbers___init__ (fun σ => passAt (takes_of rfl rfl rfl rfl) σ) (pa_cons (pv 3) pa_nil) (pk_cons (pe_fld (pv 0) rfl) pk_nil))) pss_nil))))),
    (ss_seq (ss_drop (se_call (sa_cons (se_var 1) sa_nil))) (ss_seq (ss_if (st_not (st_v (se_call (sa_cons (se_var 2) sa_nil)))) (ss_seq (ss_raise (c := "BadNumbers") (sa_cons (se_var 1) sa_nil)) ss_next) ss_next) (ss_seq (ss_set 3 (se_lc (w' := noX) true (si_rng1 (sa_cons (se_cb oc_max2 (sa_cons (se_op (o_add false) (se_var 1) (se_c fun _ => RD.int _)) (sa_cons (se_cb oc_len (sa_cons (se_fld (fld1 in_Numbers.cl n_Numbers_pairs) (se_var 0)) sa_nil)) sa_nil))) sa_nil)) (stk_one (sg_name 4)) (gw_name (by decide)) etyes (se_subO (se_var 0) (se_var 4)))) (ss_seq (ss_asg (se_var 2) (sg_sub (se_var 3) (se_var 1))) (ss_seq (ss_ret (se_mk put1 (sa_cons (se_var 3) sa_nil) (sa_cons (se_fld (fld1 in_Numbers.cl n_Numbers_tail) (se_var 0)) sa_nil))) ss_next)))))⟩
def x_Numbers_moved : Es := (esSeq (esDrop (evCall r_check_number (eaCons (evC (.str (PySem.Str.ofString "many"))) (eaCons (evVar 1) (eaCons (evC (.int 0)) eaNil))))) (esSeq (esRet (evMk "Numbers" 1 1 r_Numbers___init__ (fun ws zs => ws ++ zs) (eaCons (evSl false (evFld ["Numbers"] "pairs" (evVar 0)) (eoSome (evVar 1)) eoNone) eaNil) (eaCons (evFld ["Numbers"] "tail" (evVar 0)) eaNil))) esNext))
abbrev r_Numbers_moved : G.Run := runF 2 2 x_Numbers_moved
theorem sc_Numbers_moved : FnScope ["self", "many"] ["self", "many"] (defScope (inClass (top 24) 13)) := ⟨rfl, rfl, rfl, by decide +kernel, rfl, by decide +kernel, by decide +kernel⟩
theorem ok_Numbers_moved (KB : K.In base) (GB : base.Ns mainGlobals mg) (c : Says ts fn K) : Def P w K mg base 7 (mAt "Numbers" "moved" K) ["self", "many"] (spF K r_Numbers_moved) (All K ["self", "many"]) := by
  obtain ⟨fd, F⟩ := c.def_ 29 (d := d_Numbers_moved) rfl
  obtain ⟨fd_check_number, F_check_number, B_check_number, P_check_number⟩ := (ok_check_number (P := P) (w := w) KB GB c).ex
  have g_check_number := He.glo_ok KB GB (c.test 9 (t := (He.Fa.glo "check_number").ok) rfl)
  obtain ⟨fd_Numbers___init__, F_Numbers___init__, B_Numbers___init__, P_Numbers___init__⟩ := (ok_Numbers___init__ (P := P) (w := w) KB GB c).ex
  have in_Numbers := insB_ok (c.test 77 (t := insB "Numbers") rfl)
  have n_Numbers_pairs := He.noat_ok (c.test 96 (t := (He.Fa.noat "Numbers" "pairs").ok) rfl)
  have n_Numbers_tail := He.noat_ok (c.test 97 (t := (He.Fa.noat "Numbers" "tail").ok) rfl)
  have mk_Numbers := He.mkr_ok (c.test 78 (t := (He.Fa.mkr "Numbers").ok) rfl)
  obtain ⟨gK_Numbers___init__, K_Numbers___init__⟩ := B_Numbers___init__
  have g_Numbers := He.glo_ok KB GB (c.test 20 (t := (He.Fa.glo "Numbers").ok) rfl)
  have sc := sc_Numbers_moved
  refine ⟨fd, fn_ok F sc 2 rfl fun cdv A outer s H E hr => ?_, F.bindsN fun _ _ _ _ _ _ us hl => match us, hl with | [_, _], _ => rfl, F.kp⟩
  exact ⟨_, (pss_cons (ps_expr (pe_callS F_check_number (hr.mono (by decide)) rfl g_check_number P_check_number B_check_number (fun σ => passAt (takes_of rfl rfl rfl rfl) σ) (pa_cons pe_str (pa_cons (pv 1) (pa_cons pe_int pa_nil))))) (pss_cons (ps_ret (pe_mkS mk_Numbers F_Numbers___init__ (hr.mono (by decide)) rfl g_Numbers K_Numbers___init__ (fun σ => passAt (takes_of rfl rfl rfl rfl) σ) (pa_cons (pe_slice sl_seq (pe_fld (pv 0) rfl) (po_some (pv 1)) po_none) pa_nil) (pk_cons (pe_fld (pv 0) rfl) pk_nil))) pss_nil)),
    (ss_seq (ss_drop (se_call (sa_cons (se_c fun _ => RD.str _) (sa_cons (se_var 1) (sa_cons (se_c fun _ => RD.int _) sa_nil))))) (ss_seq (ss_ret (se_mk put1 (sa_cons (se_sl false (se_fld (fld1 in_Numbers.cl n_Numbers_pairs) (se_var 0)) (so_some (se_var 1)) so_none) sa_nil) (sa_cons (se_fld (fld1 in_Numbers.cl n_Numbers_tail) (se_var 0)) sa_nil))) ss_next))⟩
def x_Numbers_raised : Es := (esSeq (esDrop (evCall r_check_number (eaCons (evC (.str (PySem.Str.ofString "many"))) (eaCons (evVar 1) (eaCons (evC (.int 0)) eaNil))))) (esSeq (esIf (etNot (etV (evCall r_is_number_pair (eaCons (evVar 2) eaNil)))) (esSeq (esRaise "BadNumbers" 1 [("at", 0)] (eaCons (evC (.int 0)) eaNil)) esNext) esNext) (esSeq (esRet (evMk "Numbers" 1 1 r_Numbers___init__ (fun ws zs => ws ++ zs) (eaCons (evBin (gAdd false) (evBin (gMul false) (evLst false (eaCons (evVar 2) eaNil)) (evVar 1)) (evCB (gList false) (eaCons (evFld ["Numbers"] "pairs" (evVar 0)) eaNil))) eaNil) (eaCons (evFld ["Numbers"] "tail" (evVar 0)) eaNil))) esNext)))
abbrev r_Numbers_raised : G.Run := runF 3 3 x_Numbers_raised
theorem sc_Numbers_raised : FnScope ["self", "many", "pair"] ["self", "many", "pair"] (defScope (inClass (top 24) 14)) := ⟨rfl, rfl, rfl, by decide +kernel, rfl, by decide +kernel, by decide +kernel⟩
theorem ok_Numbers_raised (KB : K.In base) (GB : base.Ns mainGlobals mg) (c : Says ts fn K) : Def P w K mg base 7 (mAt "Numbers" "raised" K) ["self", "many", "pair"] (spF K r_Numbers_raised) (Dfl K ["self", "many", "pair"] (DefT.dvs d_Numbers_raised K)) := by
  obtain ⟨fd, F⟩ := c.def_ 30 (d := d_Numbers_raised) rfl
  obtain ⟨fd_check_number, F_check_number, B_check_number, P_check_number⟩ := (ok_check_number (P := P) (w := w) KB GB c).ex
  have g_check_number := He.glo_ok KB GB (c.test 9 (t := (He.Fa.glo "check_number").ok) rfl)
  obtain ⟨fd_is_number_pair, F_is_number_pair, B_is_number_pair, P_is_number_pair⟩ := (ok_is_number_pair (P := P) (w := w) KB GB c).ex
  have g_is_number_pair := He.glo_ok KB GB (c.test 13 (t := (He.Fa.glo "is_number_pair").ok) rfl)
  obtain ⟨fd_BadNumbers___init__, F_BadNumbers___init__, B_BadNumbers___init__, P_BadNumbers___init__⟩ := (ok_BadNumbers___init__ (P := P) (w := w) KB GB c).ex
  have g_BadNumbers := He.glo_ok KB GB (c.test 7 (t := (He.Fa.glo "BadNumbers").ok) rfl)
  have x_BadNumbers := xcB_ok (c.test 73 (t := xcB "BadNumbers") rfl)
  have m_BadNumbers := He.meth_ok (c.test 75 (t := (He.Fa.meth "BadNumbers" "__init__").ok) rfl)
  obtain ⟨fd_Numbers___init__, F_Numbers___init__, B_Numbers___init__, P_Numbers___init__⟩ := (ok_Numbers___init__ (P := P) (w := w) KB GB c).ex
  have in_Numbers := insB_ok (c.test 77 (t := insB "Numbers") rfl)
  have n_Numbers_pairs := He.noat_ok (c.test 96 (t := (He.Fa.noat "Numbers" "pairs").ok) rfl)
  have g_list := He.free_ok KB GB (c.test 50 (t := (He.Fa.free "list").ok) rfl)
  have n_Numbers_tail := He.noat_ok (c.test 97 (t := (He.Fa.noat "Numbers" "tail").ok) rfl)
  have mk_Numbers := He.mkr_ok (c.test 78 (t := (He.Fa.mkr "Numbers").ok) rfl)
  obtain ⟨gK_Numbers___init__, K_Numbers___init__⟩ := B_Numbers___init__
  have g_Numbers := He.glo_ok KB GB (c.test 20 (t := (He.Fa.glo "Numbers").ok) rfl)
  have sc := sc_Numbers_raised
  refine ⟨fd, fn_ok F sc 3 rfl fun cdv A outer s H E hr => ?_, (by
    refine ⟨?_, ?_⟩
    · obtain ⟨ds, v, h⟩ := FunD.binds1 (ps := ["self", "many", "pair"]) F 3 1 (by intro z; cases z) rfl fun T kV doc pm an cdv ct us its l1 l2 => match us, its, l1, l2 with | [_, _, _], [_], _, _ => ⟨_, rfl, rfl⟩
      cases v
      exact h
    · exact FunD.binds1 (ps := ["self", "many", "pair"]) F 2 0 (by intro z; cases z) rfl fun T kV doc pm an cdv ct us its l1 l2 => match us, its, l1, l2 with | [_, _], [_], _, _ => ⟨_, rfl, rfl⟩), F.kp⟩
  exact ⟨_, (pss_cons (ps_expr (pe_callS F_check_number (hr.mono (by decide)) rfl g_check_number P_check_number B_check_number (fun σ => passAt (takes_of rfl rfl rfl rfl) σ) (pa_cons pe_str (pa_cons (pv 1) (pa_cons pe_int pa_nil))))) (pss_cons (ps_if (pt_not (pt_val (pe_callS F_is_number_pair (hr.mono (by decide)) rfl g_is_number_pair P_is_number_pair B_is_number_pair (fun σ => passAt (takes_of rfl rfl rfl rfl) σ) (pa_cons (pv 2) pa_nil)))) (pss_cons (ps_raise rfl (takes_of rfl rfl rfl rfl) (pmk_x x_BadNumbers m_BadNumbers.at_ (fnty m_BadNumbers.fn) F_BadNumbers___init__ (hr.mono (by decide)) B_BadNumbers___init__ passL rfl g_BadNumbers (pa_cons pe_int pa_nil))) pss_nil) pss_nil) (pss_cons (ps_ret (pe_mkS mk_Numbers F_Numbers___init__ (hr.mono (by decide)) rfl g_Numbers K_Numbers___init__ (fun σ => passAt (takes_of rfl rfl rfl rfl) σ) (pa_cons (pe_op op_plus (pe_op op_times (pe_lst (pa_cons (pv 2) pa_nil)) (pv 1)) (pe_callTy call_list_of rfl g_list b_list (pa_cons (pe_fld (pv 0) rfl) pa_nil))) pa_nil) (pk_cons (pe_fld (pv 0) rfl) pk_nil))) pss_nil))),
    (ss_seq (ss_drop (se_call (sa_cons (se_c fun _ => RD.str _) (sa_cons (se_var 1) (sa_cons (se_c fun _ => RD.int _) sa_nil))))) (ss_seq (ss_if (st_not (st_v (se_call (sa_cons (se_var 2) sa_nil)))) (ss_seq (ss_raise (c := "BadNumbers") (sa_cons (se_c fun _ => RD.int _) sa_nil)) ss_next) ss_next) (ss_seq (ss_ret (se_mk put1 (sa_cons (se_op (o_add false) (se_op (o_mul false) (se_lst false (sa_cons (se_var 2) sa_nil)) (se_var 1)) (se_cb (oc_list false) (sa_cons (se_fld (fld1 in_Numbers.cl n_Numbers_pairs) (se_var 0)) sa_nil))) sa_nil) (sa_cons (se_fld (fld1 in_Numbers.cl n_Numbers_tail) (se_var 0)) sa_nil))) ss_next)))⟩
def x_Numbers_dead_pair : Es := (esSeq (esDrop (evCall r_check_any_rank (eaCons (evVar 1) eaNil))) (esSeq (esAsg (evLst false eaNil) (egName 2)) (esSeq (esFor (eiRng1 (eaCons (evVar 1) eaNil)) (.one (egName 3)) (esSeq (esAsg (evSubO "Numbers" r_Numbers___getitem__ (evVar 0) (evVar 3)) (egTup 2 (egCons (egName 4) (egCons (egName 5) egNil)))) (esSeq (esAsg (evBin (gAdd false) (evLc false [7] (eiSeq (evVar 2)) (.one (egName 7)) etYes (evBin (gAdd false) (evBin (gMul false) (evVar 4) (evVar 7)) (evVar 5))) (evLst false (eaCons (evVar 5) eaNil))) (egName 2)) (esSeq (esIf (etV (evBin (gIn false) (evC (.int 0)) (evVar 2))) (esSeq (esAsg (evBM isL gIndex (evVar 2) (eaCons (evC (.int 0)) eaNil)) (egName 6)) (esSeq (esRet (evTup (eaCons (evVar 6) (eaCons (evBin (gMinus) (evBin (gAdd false) (evVar 3) (evC (.int 1))) (evVar 6)) eaNil)))) esNext)) esNext) esNext)))) (esSeq (esRet (evC .non)) esNext))))
abbrev r_Numbers_dead_pair : G.Run := runF 2 8 x_Numbers_dead_pair
theorem sc_Numbers_dead_pair : FnScope ["self", "rank", "row", "at", "q", "r", "start", "one"] ["self", "rank"] (defScope (inClass (top 24) 15)) := ⟨rfl, rfl, rfl, by decide +kernel, rfl, by decide +kernel, by decide +kernel⟩
theorem ok_Numbers_dead_pair (KB : K.In base) (GB : base.Ns mainGlobals mg) (c : Says ts fn K) : Def P w K mg base 7 (mAt "Numbers" "dead_pair" K) ["self", "rank"] (spF K r_Numbers_dead_pair) (All K ["self", "rank"]) := by
  obtain ⟨fd, F⟩ := c.def_ 31 (d := d_Numbers_dead_pair) rfl
  obtain ⟨fd_check_any_rank, F_check_any_rank, B_check_any_rank, P_check_any_rank⟩ := (ok_check_any_rank (P := P) (w := w) KB GB c).ex
  have g_check_any_rank := He.glo_ok KB GB (c.test 15 (t := (He.Fa.glo "check_any_rank").ok) rfl)
  have g_range := He.free_ok KB GB (c.test 53 (t := (He.Fa.free "range").ok) rfl)
  obtain ⟨fd_Numbers___getitem__, F_Numbers___getitem__, B_Numbers___getitem__, P_Numbers___getitem__⟩ := (ok_Numbers___getitem__ (P := P) (w := w) KB GB c).ex
  have it_Numbers := itemB_ok (c.test 83 (t := itemB "Numbers") rfl)
  have sc := sc_Numbers_dead_pair
  refine ⟨fd, fn_ok F sc 8 rfl fun cdv A outer s H E hr => ?_, F.bindsN fun _ _ _ _ _ _ us hl => match us, hl with | [_, _], _ => rfl, F.kp⟩
  exact ⟨_, (pss_cons (ps_expr (pe_callS F_check_any_rank (hr.mono (by decide)) rfl g_check_any_rank P_check_any_rank B_check_any_rank (fun σ => passAt (takes_of rfl rfl rfl rfl) σ) (pa_cons (pv 1) pa_nil))) (pss_cons (ps_set (i := 2) sc.nd rfl loc (pe_lst pa_nil)) (pss_cons (ps_for (passes_of rfl) rfl (pi_range1 rfl g_range (pa_cons (pv 1) pa_nil)) (pg_name sc.nd (i := 3) rfl loc) (pss_cons (ps_asg (pe_subO (pv 0) (pv 3) it_Numbers.1 it_Numbers.2.1 it_Numbers.2.2 F_Numbers___getitem__ (hr.mono (by decide)) B_Numbers___getitem__ (fun σ => passAt (takes_of rfl rfl rfl rfl) σ)) (pg_tup rfl (pgs_cons (pg_name sc.nd (i := 4) rfl loc) (pgs_cons (pg_name sc.nd (i := 5) rfl loc) pgs_nil)))) (pss_cons (ps_set (i := 2) sc.nd rfl loc (pe_op op_plus (pe_lc (own := [("one", 7)]) rfl sc.nd (pi_seq (pi_list (pv 2)) (pi_tup (pv 2)) (pi_str (pv 2))) (show BlkOk ["self", "rank", "row", "at", "q", "r", "start", "one"] (defScope (inClass (top 24) 15)) _ [("one", 7)] from ⟨rfl, by decide +kernel, by decide +kernel, by decide +kernel, by decide +kernel⟩) (fun s H C cl fp => (pg_name sc.nd (i := 7) rfl loc)) (fun s H C cl fp => pts_nil) (fun s H C cl fp => (pe_op op_plus (pe_op op_times (pv 4) (pv 7)) (pv 5)))) (pe_lst (pa_cons (pv 5) pa_nil)))) (pss_cons (ps_if (pt_cmpR op_in_seq pe_int (pv 2) rfl) (pss_cons (ps_set (i := 6) sc.nd rfl loc (pe_bm PySem.F.plainAttrs_list PySem.F.slot_list_index PySem.F.type_list_index mt_index (pv 2) (pa_cons pe_int pa_nil))) (pss_cons (ps_ret (pe_tup (pa_cons (pv 6) (pa_cons (pe_op op_sub (pe_op op_plus (pv 3) pe_int) (pv 6)) pa_nil)))) pss_nil)) pss_nil) pss_nil)))) (pss_cons (ps_ret pe_non) pss_nil)))),
    (ss_seq (ss_drop (se_call (sa_cons (se_var 1) sa_nil))) (ss_seq (ss_set 2 (se_lst false sa_nil)) (ss_seq (ss_for (si_rng1 (sa_cons (se_var 1) sa_nil)) (stk_one (sg_name 3)) (ss_seq (ss_asg (se_subO (se_var 0) (se_var 3)) (sg_tup (sgs_cons (sg_name 4) (sgs_cons (sg_name 5) sgs_nil)))) (ss_seq (ss_set 2 (se_op (o_add false) (se_lc (w' := noX) false (si_seq (se_var 2)) (stk_one (sg_name 7)) (gw_name (by decide)) etyes (se_op (o_add false) (se_op (o_mul false) (se_var 4) (se_var 7)) (se_var 5))) (se_lst false (sa_cons (se_var 5) sa_nil)))) (ss_seq (ss_if (st_v (se_op (o_in false) (se_c fun _ => RD.int _) (se_var 2))) (ss_seq (ss_set 6 (se_bm ty_list om_index (se_var 2) (sa_cons (se_c fun _ => RD.int _) sa_nil))) (ss_seq (ss_ret (se_tup (sa_cons (se_var 6) (sa_cons (se_op (o_sub) (se_op (o_add false) (se_var 3) (se_c fun _ => RD.int _)) (se_var 6)) sa_nil)))) ss_next)) ss_next) ss_next)))) (ss_seq (ss_ret (se_c fun _ => RD.non)) ss_next))))⟩
def x_Numbers_lively_to : Es := (esSeq (esRet (evBin (gIsN) (evMe "Numbers" "dead_pair" r_Numbers_dead_pair [] (evVar 0) (eaCons (evVar 1) eaNil)) (evC .non))) esNext)
abbrev r_Numbers_lively_to : G.Run := runF 2 2 x_Numbers_lively_to
theorem sc_Numbers_lively_to : FnScope ["self", "rank"] ["self", "rank"] (defScope (inClass (top 24) 16)) := ⟨rfl, rfl, rfl, by decide +kernel, rfl, by decide +kernel, by decide +kernel⟩
theorem ok_Numbers_lively_to (KB : K.In base) (GB : base.Ns mainGlobals mg) (c : Says ts fn K) : Def P w K mg base 8 (mAt "Numbers" "lively_to" K) ["self", "rank"] (spF K r_Numbers_lively_to) (All K ["self", "rank"]) := by
  obtain ⟨fd, F⟩ := c.def_ 32 (d := d_Numbers_lively_to) rfl
  obtain ⟨fd_Numbers_dead_pair, F_Numbers_dead_pair, B_Numbers_dead_pair, P_Numbers_dead_pair⟩ := (ok_Numbers_dead_pair (P := P) (w := w) KB GB c).ex
  have in_Numbers := insB_ok (c.test 77 (t := insB "Numbers") rfl)
  have mt_Numbers_dead_pair := He.meth_ok (c.test 94 (t := (He.Fa.meth "Numbers" "dead_pair").ok) rfl)
  have sc := sc_Numbers_lively_to
  refine ⟨fd, fn_ok F sc 2 rfl fun cdv A outer s H E hr => ?_, F.bindsN fun _ _ _ _ _ _ us hl => match us, hl with | [_, _], _ => rfl, F.kp⟩
  exact ⟨_, (pss_cons (ps_ret (pe_cmpR op_isN (pe_me (pv 0) in_Numbers.cl mt_Numbers_dead_pair F_Numbers_dead_pair (hr.mono (by decide)) B_Numbers_dead_pair .nil (fun σ => passAt (takes_of rfl rfl rfl rfl) σ) (pa_cons (pv 1) pa_nil)) pe_non (nomark _))) pss_nil),
    (ss_seq (ss_ret (se_op (o_isN) (se_me (fun _ => .nil) (se_var 0) (sa_cons (se_var 1) sa_nil)) (se_c fun _ => RD.non))) ss_next)⟩
def x_last_alive : Es := (esSeq (esDrop (evCall r_check_any_rank (eaCons (evVar 1) eaNil))) (esSeq (esDrop (evCall r_check_rank_from (eaCons (evVar 2) (eaCons (evVar 1) eaNil)))) (esSeq (esAsg (evC (.int 0)) (egName 3)) (esSeq (esFor (eiRng2 (eaCons (evVar 1) (eaCons (evVar 2) eaNil))) (.one (egName 4)) (esSeq (esAsg (evSubO "Numbers" r_Numbers___getitem__ (evVar 0) (evVar 4)) (egTup 2 (egCons (egName 5) (egCons (egName 6) egNil)))) (esSeq (esAsg (evBin (gAdd false) (evBin (gMul false) (evVar 5) (evVar 3)) (evVar 6)) (egName 3)) (esSeq (esIf (etV (evBin (gEq) (evVar 3) (evC (.int 0)))) (esSeq (esRet (evVar 4)) esNext) esNext) esNext)))) (esSeq (esRet (evVar 2)) esNext)))))
abbrev r_last_alive : G.Run := runF 3 7 x_last_alive
theorem sc_last_alive : FnScope ["numbers", "start", "most", "value", "rank", "q", "r"] ["numbers", "start", "most"] (defScope (top 25)) := ⟨rfl, rfl, rfl, by decide +kernel, rfl, by decide +kernel, by decide +kernel⟩
theorem ok_last_alive (KB : K.In base) (GB : base.Ns mainGlobals mg) (c : Says ts fn K) : Def P w K mg base 7 (gAt "last_alive" K) ["numbers", "start", "most"] (spF K r_last_alive) (All K ["numbers", "start", "most"]) := by
  obtain ⟨fd, F⟩ := c.def_ 33 (d := d_last_alive) rfl
  obtain ⟨fd_check_any_rank, F_check_any_rank, B_check_any_rank, P_check_any_rank⟩ := (ok_check_any_rank (P := P) (w := w) KB GB c).ex
  have g_check_any_rank := He.glo_ok KB GB (c.test 15 (t := (He.Fa.glo "check_any_rank").ok) rfl)
  obtain ⟨fd_check_rank_from, F_check_rank_from, B_check_rank_from, P_check_rank_from⟩ := (ok_check_rank_from (P := P) (w := w) KB GB c).ex
  have g_check_rank_from := He.glo_ok KB GB (c.test 16 (t := (He.Fa.glo "check_rank_from").ok) rfl)
  have g_range := He.free_ok KB GB (c.test 53 (t := (He.Fa.free "range").ok) rfl)
  obtain ⟨fd_Numbers___getitem__, F_Numbers___getitem__, B_Numbers___getitem__, P_Numbers___getitem__⟩ := (ok_Numbers___getitem__ (P := P) (w := w) KB GB c).ex
  have it_Numbers := itemB_ok (c.test 83 (t := itemB "Numbers") rfl)
  have sc := sc_last_alive
  refine ⟨fd, fn_ok F sc 7 rfl fun cdv A outer s H E hr => ?_, F.bindsN fun _ _ _ _ _ _ us hl => match us, hl with | [_, _, _], _ => rfl, F.kp⟩
  exact ⟨_, (pss_cons (ps_expr (pe_callS F_check_any_rank (hr.mono (by decide)) rfl g_check_any_rank P_check_any_rank B_check_any_rank (fun σ => passAt (takes_of rfl rfl rfl rfl) σ) (pa_cons (pv 1) pa_nil))) (pss_cons (ps_expr (pe_callS F_check_rank_from (hr.mono (by decide)) rfl g_check_rank_from P_check_rank_from B_check_rank_from (fun σ => passAt (takes_of rfl rfl rfl rfl) σ) (pa_cons (pv 2) (pa_cons (pv 1) pa_nil)))) (pss_cons (ps_set (i := 3) sc.nd rfl loc pe_int) (pss_cons (ps_for (passes_of rfl) rfl (pi_range2 rfl g_range (pa_cons (pv 1) (pa_cons (pv 2) pa_nil))) (pg_name sc.nd (i := 4) rfl loc) (pss_cons (ps_asg (pe_subO (pv 0) (pv 4) it_Numbers.1 it_Numbers.2.1 it_Numbers.2.2 F_Numbers___getitem__ (hr.mono (by decide)) B_Numbers___getitem__ (fun σ => passAt (takes_of rfl rfl rfl rfl) σ)) (pg_tup rfl (pgs_cons (pg_name sc.nd (i := 5) rfl loc) (pgs_cons (pg_name sc.nd (i := 6) rfl loc) pgs_nil)))) (pss_cons (ps_set (i := 3) sc.nd rfl loc (pe_op op_plus (pe_op op_times (pv 5) (pv 3)) (pv 6))) (pss_cons (ps_if (pt_cmpR (op_eqS hr.units) (pv 3) pe_int (nomark _)) (pss_cons (ps_ret (pv 4)) pss_nil) pss_nil) pss_nil)))) (pss_cons (ps_ret (pv 2)) pss_nil))))),
    (ss_seq (ss_drop (se_call (sa_cons (se_var 1) sa_nil))) (ss_seq (ss_drop (se_call (sa_cons (se_var 2) (sa_cons (se_var 1) sa_nil)))) (ss_seq (ss_set 3 (se_c fun _ => RD.int _)) (ss_seq (ss_for (si_rng2 (sa_cons (se_var 1) (sa_cons (se_var 2) sa_nil))) (stk_one (sg_name 4)) (ss_seq (ss_asg (se_subO (se_var 0) (se_var 4)) (sg_tup (sgs_cons (sg_name 5) (sgs_cons (sg_name 6) sgs_nil)))) (ss_seq (ss_set 3 (se_op (o_add false) (se_op (o_mul false) (se_var 5) (se_var 3)) (se_var 6))) (ss_seq (ss_if (st_v (se_op (o_eq) (se_var 3) (se_c fun _ => RD.int _))) (ss_seq (ss_ret (se_var 4)) ss_next) ss_next) ss_next)))) (ss_seq (ss_ret (se_var 2)) ss_next)))))⟩
def x_first_not_above : Es := (esSeq (esDrop (evCall r_check_any_rank (eaCons (evVar 1) eaNil))) (esSeq (esDrop (evCall r_check_rank_from (eaCons (evVar 2) (eaCons (evVar 1) eaNil)))) (esSeq (esAsg (evC (.int 0)) (egName 3)) (esSeq (esFor (eiRng2 (eaCons (evVar 1) (eaCons (evVar 2) eaNil))) (.one (egName 4)) (esSeq (esAsg (evSubO "Numbers" r_Numbers___getitem__ (evVar 0) (evVar 4)) (egTup 2 (egCons (egName 5) (egCons (egName 6) egNil)))) (esSeq (esAsg (evBin (gAdd false) (evBin (gMul false) (evVar 5) (evVar 3)) (evVar 6)) (egName 3)) (esSeq (esIf (etV (evBin (gCmp (fun i j => decide (i ≤ j))) (evVar 3) (evC (.int 0)))) (esSeq (esRet (evBin (gMinus) (evBin (gAdd false) (evVar 4) (evC (.int 1))) (evVar 1))) esNext) esNext) esNext)))) (esSeq (esRet (evC .non)) esNext)))))
abbrev r_first_not_above : G.Run := runF 3 7 x_first_not_above
theorem sc_first_not_above : FnScope ["numbers", "start", "most", "value", "rank", "q", "r"] ["numbers", "start", "most"] (defScope (top 26)) := ⟨rfl, rfl, rfl, by decide +kernel, rfl, by decide +kernel, by decide +kernel⟩
theorem ok_first_not_above (KB : K.In base) (GB : base.Ns mainGlobals mg) (c : Says ts fn K) : Def P w K mg base 7 (gAt "first_not_above" K) ["numbers", "start", "most"] (spF K r_first_not_above) (All K ["numbers", "start", "most"]) := by
  obtain ⟨fd, F⟩ := c.def_ 34 (d := d_first_not_above) rfl
  obtain ⟨fd_check_any_rank, F_check_any_rank, B_check_any_rank, P_check_any_rank⟩ := (ok_check_any_rank (P := P) (w := w) KB GB c).ex
  have g_check_any_rank := He.glo_ok KB GB (c.test 15 (t := (He.Fa.glo "check_any_rank").ok) rfl)
  obtain ⟨fd_check_rank_from, F_check_rank_from, B_check_rank_from, P_check_rank_from⟩ := (ok_check_rank_from (P := P) (w := w) KB GB c).ex
  have g_check_rank_from := He.glo_ok KB GB (c.test 16 (t := (He.Fa.glo "check_rank_from").ok) rfl)
  have g_range := He.free_ok KB GB (c.test 53 (t := (He.Fa.free "range").ok) rfl)
  obtain ⟨fd_Numbers___getitem__, F_Numbers___getitem__, B_Numbers___getitem__, P_Numbers___getitem__⟩ := (ok_Numbers___getitem__ (P := P) (w := w) KB GB c).ex
  have it_Numbers := itemB_ok (c.test 83 (t := itemB "Numbers") rfl)
  have sc := sc_first_not_above
  refine ⟨fd, fn_ok F sc 7 rfl fun cdv A outer s H E hr => ?_, F.bindsN fun _ _ _ _ _ _ us hl => match us, hl with | [_, _, _], _ => rfl, F.kp⟩
  exact ⟨_, (pss_cons (ps_expr (pe_callS F_check_any_rank (hr.mono (by decide)) rfl g_check_any_rank P_check_any_rank B_check_any_rank (fun σ => passAt (takes_of rfl rfl rfl rfl) σ) (pa_cons (pv 1) pa_nil))) (pss_cons (ps_expr (pe_callS F_check_rank_from (hr.mono (by decide)) rfl g_check_rank_from P_check_rank_from B_check_rank_from (fun σ => passAt (takes_of rfl rfl rfl rfl) σ) (pa_cons (pv 2) (pa_cons (pv 1) pa_nil)))) (pss_cons (ps_set (i := 3) sc.nd rfl loc pe_int) (pss_cons (ps_for (passes_of rfl) rfl (pi_range2 rfl g_range (pa_cons (pv 1) (pa_cons (pv 2) pa_nil))) (pg_name sc.nd (i := 4) rfl loc) (pss_cons (ps_asg (pe_subO (pv 0) (pv 4) it_Numbers.1 it_Numbers.2.1 it_Numbers.2.2 F_Numbers___getitem__ (hr.mono (by decide)) B_Numbers___getitem__ (fun σ => passAt (takes_of rfl rfl rfl rfl) σ)) (pg_tup rfl (pgs_cons (pg_name sc.nd (i := 5) rfl loc) (pgs_cons (pg_name sc.nd (i := 6) rfl loc) pgs_nil)))) (pss_cons (ps_set (i := 3) sc.nd rfl loc (pe_op op_plus (pe_op op_times (pv 5) (pv 3)) (pv 6))) (pss_cons (ps_if (pt_cmpR op_le (pv 3) pe_int (nomark _)) (pss_cons (ps_ret (pe_op op_sub (pe_op op_plus (pv 4) pe_int) (pv 1))) pss_nil) pss_nil) pss_nil)))) (pss_cons (ps_ret pe_non) pss_nil))))),
    (ss_seq (ss_drop (se_call (sa_cons (se_var 1) sa_nil))) (ss_seq (ss_drop (se_call (sa_cons (se_var 2) (sa_cons (se_var 1) sa_nil)))) (ss_seq (ss_set 3 (se_c fun _ => RD.int _)) (ss_seq (ss_for (si_rng2 (sa_cons (se_var 1) (sa_cons (se_var 2) sa_nil))) (stk_one (sg_name 4)) (ss_seq (ss_asg (se_subO (se_var 0) (se_var 4)) (sg_tup (sgs_cons (sg_name 5) (sgs_cons (sg_name 6) sgs_nil)))) (ss_seq (ss_set 3 (se_op (o_add false) (se_op (o_mul false) (se_var 5) (se_var 3)) (se_var 6))) (ss_seq (ss_if (st_v (se_op (o_cmp _) (se_var 3) (se_c fun _ => RD.int _))) (ss_seq (ss_ret (se_op (o_sub) (se_op (o_add false) (se_var 4) (se_c fun _ => RD.int _)) (se_var 1))) ss_next) ss_next) ss_next)))) (ss_seq (ss_ret (se_c fun _ => RD.non)) ss_next)))))⟩
def x__law_draws : Es := (esSeq (esAsg (evLst true eaNil) (egName 1)) (esSeq (esFor (eiRng1 (eaCons (evCB gMin2 (eaCons (evCB gLen (eaCons (evVar 0) eaNil)) (eaCons (evC (.int 63)) eaNil))) eaNil)) (.one (egName 2)) (esSeq (esAsg (evCB gInt (eaCons (evBin gIx (evVar 0) (evVar 2)) eaNil)) (egName 3)) (esSeq (esIf (etV (evBin (gCmp (fun i j => decide (i < j))) (evVar 3) (evC (.int 0)))) (esSeq (esAsg (evBin (gMinus) (evC (.int 1)) (evVar 3)) (egName 3)) esNext) esNext) (esSeq (esIf (etV (evBin (gCmp (fun i j => decide (j ≤ i))) (evVar 3) (evBin (gPow) (evC (.int 10)) (evC (.int 18))))) (esSeq (esFor (eiRng1 (eaCons (evC (.int 60)) eaNil)) (.one (egName 4)) (esSeq (esIf (etV (evBin (gCmp (fun i j => decide (j < i))) (evVar 3) (evC (.int 0)))) (esSeq (esDrop (evBM isL gAppend (evVar 1) (eaCons (evBin (gMod) (evCB gInt (eaCons (evVar 3) eaNil)) (evC (.int 24))) eaNil))) (esSeq (esAsg (evBin (gDiv) (evVar 3) (evC (.int 24))) (egName 3)) esNext)) esNext) esNext)) esNext) (esSeq (esAsg (evBin (gMod) (evCB gInt (eaCons (evBin (gAdd false) (evBin (gAdd false) (evBin (gMul false) (evVar 3) (evC (.int 52361))) (evBin (gMul false) (evVar 2) (evC (.int 71249)))) (evC (.int 3))) eaNil)) (evC (.int 2147483647))) (egName 5)) (esSeq (esFor (eiRng1 (eaCons (evC (.int 6)) eaNil)) (.one (egName 4)) (esSeq (esAsg (evBin (gMod) (evCB gInt (eaCons (evBin (gAdd false) (evBin (gAdd false) (evBin (gAdd false) (evBin (gMul false) (evVar 5) (evVar 5)) (evBin (gMul false) (evVar 4) (evC (.int 30271)))) (evVar 2)) (evC (.int 5))) eaNil)) (evC (.int 2147483563))) (egName 5)) (esSeq (esDrop (evBM isL gAppend (evVar 1) (eaCons (evVar 5) eaNil))) esNext))) esNext))) esNext)))) (esSeq (esDrop (evBM0 isL gReverse (evVar 1))) (esSeq (esRet (evVar 1)) esNext))))
abbrev r__law_draws : G.Run := runF 1 6 x__law_draws
theorem sc__law_draws : FnScope ["_law_script", "_law_draws_here", "_law_at_here", "_law_cell", "_law_k", "_law_number"] ["_law_script"] (defScope (top 28)) := ⟨rfl, rfl, rfl, by decide +kernel, rfl, by decide +kernel, by decide +kernel⟩
theorem ok__law_draws (KB : K.In base) (GB : base.Ns mainGlobals mg) (c : Says ts fn K) : Def P w K mg base 1 (gAt "_law_draws" K) ["_law_script"] (spF K r__law_draws) (All K ["_law_script"]) := by
  obtain ⟨fd, F⟩ := c.def_ 35 (d := d__law_draws) rfl
  have g_len := He.free_ok KB GB (c.test 49 (t := (He.Fa.free "len").ok) rfl)
  have g_min := He.free_ok KB GB (c.test 52 (t := (He.Fa.free "min").ok) rfl)
  have g_range := He.free_ok KB GB (c.test 53 (t := (He.Fa.free "range").ok) rfl)
  have g_int := He.free_ok KB GB (c.test 47 (t := (He.Fa.free "int").ok) rfl)
  have sc := sc__law_draws
  refine ⟨fd, fn_ok F sc 6 rfl fun cdv A outer s H E hr => ?_, F.bindsN fun _ _ _ _ _ _ us hl => match us, hl with | [_], _ => rfl, F.kp⟩
  exact ⟨_, (pss_cons (ps_set (i := 1) sc.nd rfl loc (pe_lst pa_nil)) (pss_cons (ps_for (passes_of rfl) rfl (pi_range1 rfl g_range (pa_cons (pe_callB (call_min2 rfl) rfl g_min b_min (pa_cons (pe_callB call_len rfl g_len b_len (pa_cons (pv 0) pa_nil)) (pa_cons pe_int pa_nil))) pa_nil)) (pg_name sc.nd (i := 2) rfl loc) (pss_cons (ps_set (i := 3) sc.nd rfl loc (pe_callTy call_int1 rfl g_int b_int (pa_cons (pe_ix ix_seq (pv 0) (pv 2) (fun _ _ => rfl)) pa_nil))) (pss_cons (ps_if (pt_cmpR op_lt (pv 3) pe_int (nomark _)) (pss_cons (ps_set (i := 3) sc.nd rfl loc (pe_op op_sub pe_int (pv 3))) pss_nil) pss_nil) (pss_cons (ps_if (pt_cmpR op_ge (pv 3) (pe_op op_pow pe_int pe_int) (nomark _)) (pss_cons (ps_for (passes_of rfl) rfl (pi_range1 rfl g_range (pa_cons pe_int pa_nil)) (pg_name sc.nd (i := 4) rfl loc) (pss_cons (ps_if (pt_cmpR op_gt (pv 3) pe_int (nomark _)) (pss_cons (ps_expr (pe_bm PySem.F.plainAttrs_list PySem.F.slot_list_append PySem.F.type_list_append mt_append (pv 1) (pa_cons (pe_op op_mod (pe_callTy call_int1 rfl g_int b_int (pa_cons (pv 3) pa_nil)) pe_int) pa_nil))) (pss_cons (ps_set (i := 3) sc.nd rfl loc (pe_op op_fdivW (pv 3) pe_int)) pss_nil)) pss_nil) pss_nil)) pss_nil) (pss_cons (ps_set (i := 5) sc.nd rfl loc (pe_op op_mod (pe_callTy call_int1 rfl g_int b_int (pa_cons (pe_op op_plus (pe_op op_plus (pe_op op_times (pv 3) pe_int) (pe_op op_times (pv 2) pe_int)) pe_int) pa_nil)) pe_int)) (pss_cons (ps_for (passes_of rfl) rfl (pi_range1 rfl g_range (pa_cons pe_int pa_nil)) (pg_name sc.nd (i := 4) rfl loc) (pss_cons (ps_set (i := 5) sc.nd rfl loc (pe_op op_mod (pe_callTy call_int1 rfl g_int b_int (pa_cons (pe_op op_plus (pe_op op_plus (pe_op op_plus (pe_op op_times (pv 5) (pv 5)) (pe_op op_times (pv 4) pe_int)) (pv 2)) pe_int) pa_nil)) pe_int)) (pss_cons (ps_expr (pe_bm PySem.F.plainAttrs_list PySem.F.slot_list_append PySem.F.type_list_append mt_append (pv 1) (pa_cons (pv 5) pa_nil))) pss_nil))) pss_nil))) pss_nil)))) (pss_cons (ps_expr (pe_bm0 PySem.F.plainAttrs_list PySem.F.slot_list_reverse PySem.F.type_list_reverse mt_reverse (pv 1))) (pss_cons (ps_ret (pv 1)) pss_nil)))),
    (ss_seq (ss_set 1 (se_lst true sa_nil)) (ss_seq (ss_for (si_rng1 (sa_cons (se_cb oc_min2 (sa_cons (se_cb oc_len (sa_cons (se_var 0) sa_nil)) (sa_cons (se_c fun _ => RD.int _) sa_nil))) sa_nil)) (stk_one (sg_name 2)) (ss_seq (ss_set 3 (se_cb oc_int (sa_cons (se_op o_ix (se_var 0) (se_var 2)) sa_nil))) (ss_seq (ss_if (st_v (se_op (o_cmp _) (se_var 3) (se_c fun _ => RD.int _))) (ss_seq (ss_set 3 (se_op (o_sub) (se_c fun _ => RD.int _) (se_var 3))) ss_next) ss_next) (ss_seq (ss_if (st_v (se_op (o_cmp _) (se_var 3) (se_op (o_pow) (se_c fun _ => RD.int _) (se_c fun _ => RD.int _)))) (ss_seq (ss_for (si_rng1 (sa_cons (se_c fun _ => RD.int _) sa_nil)) (stk_one (sg_name 4)) (ss_seq (ss_if (st_v (se_op (o_cmp _) (se_var 3) (se_c fun _ => RD.int _))) (ss_seq (ss_drop (se_bm ty_list om_append (se_var 1) (sa_cons (se_op (o_mod) (se_cb oc_int (sa_cons (se_var 3) sa_nil)) (se_c fun _ => RD.int _)) sa_nil))) (ss_seq (ss_set 3 (se_op (o_div) (se_var 3) (se_c fun _ => RD.int _))) ss_next)) ss_next) ss_next)) ss_next) (ss_seq (ss_set 5 (se_op (o_mod) (se_cb oc_int (sa_cons (se_op (o_add false) (se_op (o_add false) (se_op (o_mul false) (se_var 3) (se_c fun _ => RD.int _)) (se_op (o_mul false) (se_var 2) (se_c fun _ => RD.int _))) (se_c fun _ => RD.int _)) sa_nil)) (se_c fun _ => RD.int _))) (ss_seq (ss_for (si_rng1 (sa_cons (se_c fun _ => RD.int _) sa_nil)) (stk_one (sg_name 4)) (ss_seq (ss_set 5 (se_op (o_mod) (se_cb oc_int (sa_cons (se_op (o_add false) (se_op (o_add false) (se_op (o_add false) (se_op (o_mul false) (se_var 5) (se_var 5)) (se_op (o_mul false) (se_var 4) (se_c fun _ => RD.int _))) (se_var 2)) (se_c fun _ => RD.int _)) sa_nil)) (se_c fun _ => RD.int _))) (ss_seq (ss_drop (se_bm ty_list om_append (se_var 1) (sa_cons (se_var 5) sa_nil))) ss_next))) ss_next))) ss_next)))) (ss_seq (ss_drop (se_bm0 ty_list om_reverse (se_var 1))) (ss_seq (ss_ret (se_var 1)) ss_next))))⟩
def x__law_take : Es := (esSeq (esIf (etV (evBin (gEq) (evCB gLen (eaCons (evVar 0) eaNil)) (evC (.int 0)))) (esSeq (esRet (evC (.int 0))) esNext) esNext) (esSeq (esRet (evBin (gMod) (evCB gInt (eaCons (evBM0 isL gPop (evVar 0)) eaNil)) (evVar 1))) esNext))
abbrev r__law_take : G.Run := runF 2 2 x__law_take
theorem sc__law_take : FnScope ["_law_draws_here", "_law_many"] ["_law_draws_here", "_law_many"] (defScope (top 29)) := ⟨rfl, rfl, rfl, by decide +kernel, rfl, by decide +kernel, by decide +kernel⟩
theorem ok__law_take (KB : K.In base) (GB : base.Ns mainGlobals mg) (c : Says ts fn K) : Def P w K mg base 1 (gAt "_law_take" K) ["_law_draws_here", "_law_many"] (spF K r__law_take) (All K ["_law_draws_here", "_law_many"]) := by
  obtain ⟨fd, F⟩ := c.def_ 36 (d := d__law_take) rfl
  have g_len := He.free_ok KB GB (c.test 49 (t := (He.Fa.free "len").ok) rfl)
  have g_int := He.free_ok KB GB (c.test 47 (t := (He.Fa.free "int").ok) rfl)
  have sc := sc__law_take
  refine ⟨fd, fn_ok F sc 2 rfl fun cdv A outer s H E hr => ?_, F.bindsN fun _ _ _ _ _ _ us hl => match us, hl with | [_, _], _ => rfl, F.kp⟩
  exact ⟨_, (pss_cons (ps_if (pt_cmpR (op_eqS hr.units) (pe_callB call_len rfl g_len b_len (pa_cons (pv 0) pa_nil)) pe_int (nomark _)) (pss_cons (ps_ret pe_int) pss_nil) pss_nil) (pss_cons (ps_ret (pe_op op_mod (pe_callTy call_int1 rfl g_int b_int (pa_cons (pe_bm0 PySem.F.plainAttrs_list PySem.F.slot_list_pop PySem.F.type_list_pop mt_pop (pv 0)) pa_nil)) (pv 1))) pss_nil)),
    (ss_seq (ss_if (st_v (se_op (o_eq) (se_cb oc_len (sa_cons (se_var 0) sa_nil)) (se_c fun _ => RD.int _))) (ss_seq (ss_ret (se_c fun _ => RD.int _)) ss_next) ss_next) (ss_seq (ss_ret (se_op (o_mod) (se_cb oc_int (sa_cons (se_bm0 ty_list om_pop (se_var 0)) sa_nil)) (se_var 1))) ss_next))⟩
def x__law_int : Es := (esSeq (esRet (evAnd (evIs T_int (evVar 0)) (evNot (evIs T_bool (evVar 0))))) esNext)
abbrev r__law_int : G.Run := runF 1 1 x__law_int
theorem sc__law_int : FnScope ["_law_value"] ["_law_value"] (defScope (top 30)) := ⟨rfl, rfl, rfl, by decide +kernel, rfl, by decide +kernel, by decide +kernel⟩
theorem ok__law_int (KB : K.In base) (GB : base.Ns mainGlobals mg) (c : Says ts fn K) : Def P w K mg base 1 (gAt "_law_int" K) ["_law_value"] (spF K r__law_int) (All K ["_law_value"]) := by
  obtain ⟨fd, F⟩ := c.def_ 37 (d := d__law_int) rfl
  have g_isinstance := He.free_ok KB GB (c.test 48 (t := (He.Fa.free "isinstance").ok) rfl)
  have g_int := He.free_ok KB GB (c.test 47 (t := (He.Fa.free "int").ok) rfl)
  have i_int := isB_ty (c.test 99 (t := isB (fun _ => .type "int") T_int) rfl)
  have g_bool := He.free_ok KB GB (c.test 45 (t := (He.Fa.free "bool").ok) rfl)
  have i_bool := isB_ty (c.test 101 (t := isB (fun _ => .type "bool") T_bool) rfl)
  have sc := sc__law_int
  refine ⟨fd, fn_ok F sc 1 rfl fun cdv A outer s H E hr => ?_, F.bindsN fun _ _ _ _ _ _ us hl => match us, hl with | [_], _ => rfl, F.kp⟩
  exact ⟨_, (pss_cons (ps_ret (pe_and (pe_callB call_isi rfl g_isinstance b_isinstance (pa_cons (pv 0) (pa_cons (pe_ty rfl g_int b_int) pa_nil))) (pe_one (pe_not (pe_callB call_isi rfl g_isinstance b_isinstance (pa_cons (pv 0) (pa_cons (pe_ty rfl g_bool b_bool) pa_nil))))))) pss_nil),
    (ss_seq (ss_ret (se_and (se_is i_int (se_var 0)) (se_not (se_is i_bool (se_var 0))))) ss_next)⟩
def x__law_word : Es := (esSeq (esAsg (evC (.str (PySem.Str.ofString ""))) (egName 2)) (esSeq (esFor (eiRng1 (eaCons (evCall r__law_take (eaCons (evVar 0) (eaCons (evBin (gAdd false) (evVar 1) (evC (.int 1))) eaNil))) eaNil)) (.one (egName 3)) (esSeq (esIf (etV (evBin (gEq) (evCall r__law_take (eaCons (evVar 0) (eaCons (evC (.int 2)) eaNil))) (evC (.int 0)))) (esSeq (esAug 2 gAddI (evC (.str (PySem.Str.ofString "u")))) esNext) (esSeq (esAug 2 gAddI (evC (.str (PySem.Str.ofString "d")))) esNext)) esNext)) (esSeq (esRet (evVar 2)) esNext)))
abbrev r__law_word : G.Run := runF 2 4 x__law_word
theorem sc__law_word : FnScope ["_law_draws_here", "_law_most", "_law_word_here", "_law_k"] ["_law_draws_here", "_law_most"] (defScope (top 31)) := ⟨rfl, rfl, rfl, by decide +kernel, rfl, by decide +kernel, by decide +kernel⟩
theorem ok__law_word (KB : K.In base) (GB : base.Ns mainGlobals mg) (c : Says ts fn K) : Def P w K mg base 2 (gAt "_law_word" K) ["_law_draws_here", "_law_most"] (spF K r__law_word) (All K ["_law_draws_here", "_law_most"]) := by
  obtain ⟨fd, F⟩ := c.def_ 38 (d := d__law_word) rfl
  obtain ⟨fd__law_take, F__law_take, B__law_take, P__law_take⟩ := (ok__law_take (P := P) (w := w) KB GB c).ex
  have g__law_take := He.glo_ok KB GB (c.test 24 (t := (He.Fa.glo "_law_take").ok) rfl)
  have g_range := He.free_ok KB GB (c.test 53 (t := (He.Fa.free "range").ok) rfl)
  have sc := sc__law_word
  refine ⟨fd, fn_ok F sc 4 rfl fun cdv A outer s H E hr => ?_, F.bindsN fun _ _ _ _ _ _ us hl => match us, hl with | [_, _], _ => rfl, F.kp⟩
  exact ⟨_, (pss_cons (ps_set (i := 2) sc.nd rfl loc pe_str) (pss_cons (ps_for (passes_of rfl) rfl (pi_range1 rfl g_range (pa_cons (pe_callS F__law_take (hr.mono (by decide)) rfl g__law_take P__law_take B__law_take (fun σ => passAt (takes_of rfl rfl rfl rfl) σ) (pa_cons (pv 0) (pa_cons (pe_op op_plus (pv 1) pe_int) pa_nil))) pa_nil)) (pg_name sc.nd (i := 3) rfl loc) (pss_cons (ps_if (pt_cmpR (op_eqS hr.units) (pe_callS F__law_take (hr.mono (by decide)) rfl g__law_take P__law_take B__law_take (fun σ => passAt (takes_of rfl rfl rfl rfl) σ) (pa_cons (pv 0) (pa_cons pe_int pa_nil))) pe_int (nomark _)) (pss_cons (ps_aug (i := 2) sc.nd rfl loc pe_str iop_plus) pss_nil) (pss_cons (ps_aug (i := 2) sc.nd rfl loc pe_str iop_plus) pss_nil)) pss_nil)) (pss_cons (ps_ret (pv 2)) pss_nil))),
    (ss_seq (ss_set 2 (se_c fun _ => RD.str _)) (ss_seq (ss_for (si_rng1 (sa_cons (se_call (sa_cons (se_var 0) (sa_cons (se_op (o_add false) (se_var 1) (se_c fun _ => RD.int _)) sa_nil))) sa_nil)) (stk_one (sg_name 3)) (ss_seq (ss_if (st_v (se_op (o_eq) (se_call (sa_cons (se_var 0) (sa_cons (se_c fun _ => RD.int _) sa_nil))) (se_c fun _ => RD.int _))) (ss_seq (ss_aug 2 (se_c fun _ => RD.str _) o_addI) ss_next) (ss_seq (ss_aug 2 (se_c fun _ => RD.str _) o_addI) ss_next)) ss_next)) (ss_seq (ss_ret (se_var 2)) ss_next)))⟩
def x__law_at : Es := (esSeq (esIf (etV (evBin (gCmp (fun i j => decide (i < j))) (evVar 2) (evCB gLen (eaCons (evVar 0) eaNil)))) (esSeq (esRet (evBin gIx (evVar 0) (evVar 2))) esNext) esNext) (esSeq (esRet (evVar 1)) esNext))
abbrev r__law_at : G.Run := runF 3 3 x__law_at
theorem sc__law_at : FnScope ["_law_pairs", "_law_tail", "_law_rank"] ["_law_pairs", "_law_tail", "_law_rank"] (defScope (top 32)) := ⟨rfl, rfl, rfl, by decide +kernel, rfl, by decide +kernel, by decide +kernel⟩
theorem ok__law_at (KB : K.In base) (GB : base.Ns mainGlobals mg) (c : Says ts fn K) : Def P w K mg base 1 (gAt "_law_at" K) ["_law_pairs", "_law_tail", "_law_rank"] (spF K r__law_at) (All K ["_law_pairs", "_law_tail", "_law_rank"]) := by
  obtain ⟨fd, F⟩ := c.def_ 39 (d := d__law_at) rfl
  have g_len := He.free_ok KB GB (c.test 49 (t := (He.Fa.free "len").ok) rfl)
  have sc := sc__law_at
  refine ⟨fd, fn_ok F sc 3 rfl fun cdv A outer s H E hr => ?_, F.bindsN fun _ _ _ _ _ _ us hl => match us, hl with | [_, _, _], _ => rfl, F.kp⟩
  exact ⟨_, (pss_cons (ps_if (pt_cmpR op_lt (pv 2) (pe_callB call_len rfl g_len b_len (pa_cons (pv 0) pa_nil)) (nomark _)) (pss_cons (ps_ret (pe_ix ix_seq (pv 0) (pv 2) (fun _ _ => rfl))) pss_nil) pss_nil) (pss_cons (ps_ret (pv 1)) pss_nil)),
    (ss_seq (ss_if (st_v (se_op (o_cmp _) (se_var 2) (se_cb oc_len (sa_cons (se_var 0) sa_nil)))) (ss_seq (ss_ret (se_op o_ix (se_var 0) (se_var 2))) ss_next) ss_next) (ss_seq (ss_ret (se_var 1)) ss_next))⟩
def x__law_sum : Es := (esSeq (esAsg (evC (.int 0)) (egName 4)) (esSeq (esFor (eiRng2 (eaCons (evVar 2) (eaCons (evBin (gAdd false) (evVar 2) (evVar 3)) eaNil))) (.one (egName 5)) (esSeq (esAsg (evBin gIx (evCall r__law_at (eaCons (evVar 0) (eaCons (evVar 1) (eaCons (evVar 5) eaNil)))) (evC (.int 1))) (egName 6)) (esSeq (esFor (eiRng2 (eaCons (evBin (gAdd false) (evVar 5) (evC (.int 1))) (eaCons (evBin (gAdd false) (evVar 2) (evVar 3)) eaNil))) (.one (egName 7)) (esSeq (esAsg (evBin (gMul false) (evVar 6) (evBin gIx (evCall r__law_at (eaCons (evVar 0) (eaCons (evVar 1) (eaCons (evVar 7) eaNil)))) (evC (.int 0)))) (egName 6)) esNext)) (esSeq (esAug 4 gAddI (evVar 6)) esNext)))) (esSeq (esRet (evVar 4)) esNext)))
abbrev r__law_sum : G.Run := runF 4 8 x__law_sum
theorem sc__law_sum : FnScope ["_law_pairs", "_law_tail", "_law_start", "_law_steps", "_law_total", "_law_j", "_law_one", "_law_k"] ["_law_pairs", "_law_tail", "_law_start", "_law_steps"] (defScope (top 33)) := ⟨rfl, rfl, rfl, by decide +kernel, rfl, by decide +kernel, by decide +kernel⟩
theorem ok__law_sum (KB : K.In base) (GB : base.Ns mainGlobals mg) (c : Says ts fn K) : Def P w K mg base 2 (gAt "_law_sum" K) ["_law_pairs", "_law_tail", "_law_start", "_law_steps"] (spF K r__law_sum) (All K ["_law_pairs", "_law_tail", "_law_start", "_law_steps"]) := by
  obtain ⟨fd, F⟩ := c.def_ 40 (d := d__law_sum) rfl
  have g_range := He.free_ok KB GB (c.test 53 (t := (He.Fa.free "range").ok) rfl)
  obtain ⟨fd__law_at, F__law_at, B__law_at, P__law_at⟩ := (ok__law_at (P := P) (w := w) KB GB c).ex
  have g__law_at := He.glo_ok KB GB (c.test 27 (t := (He.Fa.glo "_law_at").ok) rfl)
  have sc := sc__law_sum
  refine ⟨fd, fn_ok F sc 8 rfl fun cdv A outer s H E hr => ?_, F.bindsN fun _ _ _ _ _ _ us hl => match us, hl with | [_, _, _, _], _ => rfl, F.kp⟩
  exact ⟨_, (pss_cons (ps_set (i := 4) sc.nd rfl loc pe_int) (pss_cons (ps_for (passes_of rfl) rfl (pi_range2 rfl g_range (pa_cons (pv 2) (pa_cons (pe_op op_plus (pv 2) (pv 3)) pa_nil))) (pg_name sc.nd (i := 5) rfl loc) (pss_cons (ps_set (i := 6) sc.nd rfl loc (pe_ix ix_seq (pe_callS F__law_at (hr.mono (by decide)) rfl g__law_at P__law_at B__law_at (fun σ => passAt (takes_of rfl rfl rfl rfl) σ) (pa_cons (pv 0) (pa_cons (pv 1) (pa_cons (pv 5) pa_nil)))) pe_int (fun _ _ => rfl))) (pss_cons (ps_for (passes_of rfl) rfl (pi_range2 rfl g_range (pa_cons (pe_op op_plus (pv 5) pe_int) (pa_cons (pe_op op_plus (pv 2) (pv 3)) pa_nil))) (pg_name sc.nd (i := 7) rfl loc) (pss_cons (ps_set (i := 6) sc.nd rfl loc (pe_op op_times (pv 6) (pe_ix ix_seq (pe_callS F__law_at (hr.mono (by decide)) rfl g__law_at P__law_at B__law_at (fun σ => passAt (takes_of rfl rfl rfl rfl) σ) (pa_cons (pv 0) (pa_cons (pv 1) (pa_cons (pv 7) pa_nil)))) pe_int (fun _ _ => rfl)))) pss_nil)) (pss_cons (ps_aug (i := 4) sc.nd rfl loc (pv 6) iop_plus) pss_nil)))) (pss_cons (ps_ret (pv 4)) pss_nil))),
    (ss_seq (ss_set 4 (se_c fun _ => RD.int _)) (ss_seq (ss_for (si_rng2 (sa_cons (se_var 2) (sa_cons (se_op (o_add false) (se_var 2) (se_var 3)) sa_nil))) (stk_one (sg_name 5)) (ss_seq (ss_set 6 (se_op o_ix (se_call (sa_cons (se_var 0) (sa_cons (se_var 1) (sa_cons (se_var 5) sa_nil)))) (se_c fun _ => RD.int _))) (ss_seq (ss_for (si_rng2 (sa_cons (se_op (o_add false) (se_var 5) (se_c fun _ => RD.int _)) (sa_cons (se_op (o_add false) (se_var 2) (se_var 3)) sa_nil))) (stk_one (sg_name 7)) (ss_seq (ss_set 6 (se_op (o_mul false) (se_var 6) (se_op o_ix (se_call (sa_cons (se_var 0) (sa_cons (se_var 1) (sa_cons (se_var 7) sa_nil)))) (se_c fun _ => RD.int _)))) ss_next)) (ss_seq (ss_aug 4 (se_var 6) o_addI) ss_next)))) (ss_seq (ss_ret (se_var 4)) ss_next)))⟩
def x__law_made : Es := (esSeq (esAsg (evLst false (eaCons (evC (.str (PySem.Str.ofString "made"))) eaNil)) (egName 2)) (esSeq (esTry (esSeq (esDrop (evMk "Numbers" 1 1 r_Numbers___init__ (fun ws zs => ws ++ zs) (eaCons (evVar 0) eaNil) (eaCons (evVar 1) eaNil))) esNext) (⟨E_BadNumbers, 3, fun c fs => esSeq (esAsg (evLst false (eaCons (evC (.str (PySem.Str.ofString "numbers"))) (eaCons (evXf fs "at") (eaCons (evXis X_BadForm c) eaNil)))) (egName 2)) esNext⟩ :: [])) (esSeq (esRet (evVar 2)) esNext)))
abbrev r__law_made : G.Run := runF 2 4 x__law_made
theorem sc__law_made : FnScope ["_law_pairs", "_law_tail", "_law_told", "wrong"] ["_law_pairs", "_law_tail"] (defScope (top 34)) := ⟨rfl, rfl, rfl, by decide +kernel, rfl, by decide +kernel, by decide +kernel⟩
theorem ok__law_made (KB : K.In base) (GB : base.Ns mainGlobals mg) (c : Says ts fn K) : Def P w K mg base 7 (gAt "_law_made" K) ["_law_pairs", "_law_tail"] (spF K r__law_made) (All K ["_law_pairs", "_law_tail"]) := by
  obtain ⟨fd, F⟩ := c.def_ 41 (d := d__law_made) rfl
  obtain ⟨fd_Numbers___init__, F_Numbers___init__, B_Numbers___init__, P_Numbers___init__⟩ := (ok_Numbers___init__ (P := P) (w := w) KB GB c).ex
  have mk_Numbers := He.mkr_ok (c.test 78 (t := (He.Fa.mkr "Numbers").ok) rfl)
  obtain ⟨gK_Numbers___init__, K_Numbers___init__⟩ := B_Numbers___init__
  have g_Numbers := He.glo_ok KB GB (c.test 20 (t := (He.Fa.glo "Numbers").ok) rfl)
  have g_BadNumbers := He.glo_ok KB GB (c.test 7 (t := (He.Fa.glo "BadNumbers").ok) rfl)
  have ex_BadNumbers := exmB_ok (c.test 107 (t := exmB E_BadNumbers "BadNumbers") rfl)
  have xi_BadNumbers := xisB_ok (c.test 74 (t := xisB "BadNumbers") rfl)
  have n_BadNumbers_at := He.noat_ok (c.test 76 (t := (He.Fa.noat "BadNumbers" "at").ok) rfl)
  have g_BadForm := He.glo_ok KB GB (c.test 3 (t := (He.Fa.glo "BadForm").ok) rfl)
  have g_isinstance := He.free_ok KB GB (c.test 48 (t := (He.Fa.free "isinstance").ok) rfl)
  have xk_BadForm := xkB_ok (c.test 104 (t := xkB X_BadForm "BadForm") rfl)
  have sc := sc__law_made
  refine ⟨fd, fn_ok F sc 4 rfl fun cdv A outer s H E hr => ?_, F.bindsN fun _ _ _ _ _ _ us hl => match us, hl with | [_, _], _ => rfl, F.kp⟩
  exact ⟨_, (pss_cons (ps_set (i := 2) sc.nd rfl loc (pe_lst (pa_cons pe_str pa_nil))) (pss_cons (by refine ps_tryN (tb := fun W => (tSeq (tDrop (tMkS (ca K "Numbers") 1 (List.length [(PySem.Str.ofString "tail")]) (spF K r_Numbers___init__) (fun vs zs => vs ++ zs) (WE W) (tCons (tVar 0) tNil) (tCons (tVar 1) tNil))) tNext)) rfl rfl sc.nd (takes_of rfl rfl rfl rfl) ?_ ?_; exact fun W pn xe tk po => (pss_cons (ps_expr (pe_mkS mk_Numbers F_Numbers___init__ (hr.mono (by decide)) rfl g_Numbers K_Numbers___init__ (fun σ => passAt tk σ) (pa_cons (pv 0) pa_nil) (pk_cons (pv 1) pk_nil))) pss_nil); exact (HdsN.cons (i := 3) (ts := (fun a cls d => tSeq (tAsg (tLst (tCons (tC (.str (PySem.Str.ofString "numbers"))) (tCons (tXfs (List.map (ca K) ["BadNumbers"]) "at" 3 a cls d) (tCons (tCB (rIsX K a cls d) (tCons (tVar 3) (tCons (tC (.ref (ca K "BadForm"))) tNil))) tNil)))) (gName 2)) tNext)) rfl rfl ⟨rfl, by decide, Or.inl g_BadNumbers⟩ (fun a o cls d pn hz hf => pss_cons (ps_set (i := 2) sc.nd rfl loc (pe_lst (pa_cons pe_str (pa_cons (pe_xfs (Cs := List.map (ca K) ["BadNumbers"]) (xfs_cons xi_BadNumbers.2 n_BadNumbers_at xfs_nil) hz hf (pv 3)) (pa_cons (pe_callB (call_isx hz hf) rfl g_isinstance b_isinstance (pa_cons (pv 3) (pa_cons (pe_cls rfl g_BadForm) pa_nil))) pa_nil))))) pss_nil) .nil)) (pss_cons (ps_ret (pv 2)) pss_nil))),
    (ss_seq (ss_set 2 (se_lst false (sa_cons (se_c fun _ => RD.str _) sa_nil))) (ss_seq (ss_try (tb := fun W => (tSeq (tDrop (tMkS (ca K "Numbers") 1 (List.length [(PySem.Str.ofString "tail")]) (spF K r_Numbers___init__) (fun vs zs => vs ++ zs) (WE W) (tCons (tVar 0) tNil) (tCons (tVar 1) tNil))) tNext)) (fun w => (ss_seq (ss_drop (se_mk put1 (sa_cons (se_var 0) sa_nil) (sa_cons (se_var 1) sa_nil))) ss_next)) (HdRel.cons (h := ⟨E_BadNumbers, 3, fun c fs => esSeq (esAsg (evLst false (eaCons (evC (.str (PySem.Str.ofString "numbers"))) (eaCons (evXf fs "at") (eaCons (evXis X_BadForm c) eaNil)))) (egName 2)) esNext⟩) (cs := ["BadNumbers"]) ex_BadNumbers (tc_of (by decide +kernel)) (sh_seq (sh_asg fun a d c fs hc => (se_lst false (sa_cons (se_c fun _ => RD.str _) (sa_cons (se_xf hc) (sa_cons (se_xis (.own _) xk_BadForm) sa_nil))))) ss_next) .nil)) (ss_seq (ss_ret (se_var 2)) ss_next)))⟩
def x__law_asked : Es := (esSeq (esAsg (evLst false (eaCons (evC (.str (PySem.Str.ofString "none"))) eaNil)) (egName 4)) (esSeq (esTry (esSeq (esIf (etV (evBin (gEq) (evVar 1) (evC (.str (PySem.Str.ofString "gain"))))) (esSeq (esDrop (evMe "Numbers" "gain" r_Numbers_gain [] (evVar 0) (eaCons (evVar 2) (eaCons (evVar 3) eaNil)))) esNext) (esSeq (esIf (etV (evBin (gEq) (evVar 1) (evC (.str (PySem.Str.ofString "gains"))))) (esSeq (esDrop (evMe "Numbers" "gains" r_Numbers_gains [] (evVar 0) (eaCons (evVar 2) (eaCons (evVar 3) eaNil)))) esNext) (esSeq (esDrop (evMe "Numbers" "swaps" r_Numbers_swaps [] (evVar 0) (eaCons (evVar 2) (eaCons (evVar 3) eaNil)))) esNext)) esNext)) esNext) (⟨E_BadRank, 5, fun c fs => esSeq (esAsg (evLst false (eaCons (evC (.str (PySem.Str.ofString "rank"))) (eaCons (evXf fs "rank") eaNil))) (egName 4)) esNext⟩ :: (⟨E_BadNumber, 5, fun c fs => esSeq (esAsg (evLst false (eaCons (evC (.str (PySem.Str.ofString "number"))) (eaCons (evXf fs "name") eaNil))) (egName 4)) esNext⟩ :: []))) (esSeq (esRet (evVar 4)) esNext)))
abbrev r__law_asked : G.Run := runF 4 6 x__law_asked
theorem sc__law_asked : FnScope ["_law_numbers", "_law_call", "_law_start", "_law_steps", "_law_told", "wrong"] ["_law_numbers", "_law_call", "_law_start", "_law_steps"] (defScope (top 35)) := ⟨rfl, rfl, rfl, by decide +kernel, rfl, by decide +kernel, by decide +kernel⟩
theorem ok__law_asked (KB : K.In base) (GB : base.Ns mainGlobals mg) (c : Says ts fn K) : Def P w K mg base 8 (gAt "_law_asked" K) ["_law_numbers", "_law_call", "_law_start", "_law_steps"] (spF K r__law_asked) (All K ["_law_numbers", "_law_call", "_law_start", "_law_steps"]) := by
  obtain ⟨fd, F⟩ := c.def_ 42 (d := d__law_asked) rfl
  obtain ⟨fd_Numbers_gain, F_Numbers_gain, B_Numbers_gain, P_Numbers_gain⟩ := (ok_Numbers_gain (P := P) (w := w) KB GB c).ex
  have in_Numbers := insB_ok (c.test 77 (t := insB "Numbers") rfl)
  have mt_Numbers_gain := He.meth_ok (c.test 87 (t := (He.Fa.meth "Numbers" "gain").ok) rfl)
  obtain ⟨fd_Numbers_gains, F_Numbers_gains, B_Numbers_gains, P_Numbers_gains⟩ := (ok_Numbers_gains (P := P) (w := w) KB GB c).ex
  have mt_Numbers_gains := He.meth_ok (c.test 88 (t := (He.Fa.meth "Numbers" "gains").ok) rfl)
  obtain ⟨fd_Numbers_swaps, F_Numbers_swaps, B_Numbers_swaps, P_Numbers_swaps⟩ := (ok_Numbers_swaps (P := P) (w := w) KB GB c).ex
  have mt_Numbers_swaps := He.meth_ok (c.test 89 (t := (He.Fa.meth "Numbers" "swaps").ok) rfl)
  have g_BadNumber := He.glo_ok KB GB (c.test 4 (t := (He.Fa.glo "BadNumber").ok) rfl)
  have ex_BadNumber := exmB_ok (c.test 106 (t := exmB E_BadNumber "BadNumber") rfl)
  have xi_BadNumber := xisB_ok (c.test 62 (t := xisB "BadNumber") rfl)
  have n_BadNumber_name := He.noat_ok (c.test 64 (t := (He.Fa.noat "BadNumber" "name").ok) rfl)
  have g_BadRank := He.glo_ok KB GB (c.test 5 (t := (He.Fa.glo "BadRank").ok) rfl)
  have ex_BadRank := exmB_ok (c.test 108 (t := exmB E_BadRank "BadRank") rfl)
  have xi_BadRank := xisB_ok (c.test 66 (t := xisB "BadRank") rfl)
  have n_BadRank_rank := He.noat_ok (c.test 68 (t := (He.Fa.noat "BadRank" "rank").ok) rfl)
  have sc := sc__law_asked
  refine ⟨fd, fn_ok F sc 6 rfl fun cdv A outer s H E hr => ?_, F.bindsN fun _ _ _ _ _ _ us hl => match us, hl with | [_, _, _, _], _ => rfl, F.kp⟩
  exact ⟨_, (pss_cons (ps_set (i := 4) sc.nd rfl loc (pe_lst (pa_cons pe_str pa_nil))) (pss_cons (by refine ps_tryN (tb := fun W => (tSeq (tIfS (tTest (tOp (rEqS K) (tVar 1) (tC (.str (PySem.Str.ofString "gain"))))) (tSeq (tDrop (tMe (ca K "Numbers") "gain" (spF K r_Numbers_gain) [] (WE W) (tVar 0) (tCons (tVar 2) (tCons (tVar 3) tNil)))) tNext) (tSeq (tIfS (tTest (tOp (rEqS K) (tVar 1) (tC (.str (PySem.Str.ofString "gains"))))) (tSeq (tDrop (tMe (ca K "Numbers") "gains" (spF K r_Numbers_gains) [] (WE W) (tVar 0) (tCons (tVar 2) (tCons (tVar 3) tNil)))) tNext) (tSeq (tDrop (tMe (ca K "Numbers") "swaps" (spF K r_Numbers_swaps) [] (WE W) (tVar 0) (tCons (tVar 2) (tCons (tVar 3) tNil)))) tNext)) tNext)) tNext)) rfl rfl sc.nd (takes_of rfl rfl rfl rfl) ?_ ?_; exact fun W pn xe tk po => (pss_cons (ps_if (pt_cmpR (op_eqS hr.units) (pv 1) pe_str (nomark _)) (pss_cons (ps_expr (pe_me (pv 0) in_Numbers.cl mt_Numbers_gain F_Numbers_gain (hr.mono (by decide)) B_Numbers_gain .nil (fun σ => passAt tk σ) (pa_cons (pv 2) (pa_cons (pv 3) pa_nil)))) pss_nil) (pss_cons (ps_if (pt_cmpR (op_eqS hr.units) (pv 1) pe_str (nomark _)) (pss_cons (ps_expr (pe_me (pv 0) in_Numbers.cl mt_Numbers_gains F_Numbers_gains (hr.mono (by decide)) B_Numbers_gains .nil (fun σ => passAt tk σ) (pa_cons (pv 2) (pa_cons (pv 3) pa_nil)))) pss_nil) (pss_cons (ps_expr (pe_me (pv 0) in_Numbers.cl mt_Numbers_swaps F_Numbers_swaps (hr.mono (by decide)) B_Numbers_swaps .nil (fun σ => passAt tk σ) (pa_cons (pv 2) (pa_cons (pv 3) pa_nil)))) pss_nil)) pss_nil)) pss_nil); exact (HdsN.cons (i := 5) (ts := (fun a cls d => tSeq (tAsg (tLst (tCons (tC (.str (PySem.Str.ofString "rank"))) (tCons (tXfs (List.map (ca K) ["BadRank"]) "rank" 5 a cls d) tNil))) (gName 4)) tNext)) rfl rfl ⟨rfl, by decide, Or.inl g_BadRank⟩ (fun a o cls d pn hz hf => pss_cons (ps_set (i := 4) sc.nd rfl loc (pe_lst (pa_cons pe_str (pa_cons (pe_xfs (Cs := List.map (ca K) ["BadRank"]) (xfs_cons xi_BadRank.2 n_BadRank_rank xfs_nil) hz hf (pv 5)) pa_nil)))) pss_nil) (HdsN.cons (i := 5) (ts := (fun a cls d => tSeq (tAsg (tLst (tCons (tC (.str (PySem.Str.ofString "number"))) (tCons (tXfs (List.map (ca K) ["BadNumber"]) "name" 5 a cls d) tNil))) (gName 4)) tNext)) rfl rfl ⟨rfl, by decide, Or.inl g_BadNumber⟩ (fun a o cls d pn hz hf => pss_cons (ps_set (i := 4) sc.nd rfl loc (pe_lst (pa_cons pe_str (pa_cons (pe_xfs (Cs := List.map (ca K) ["BadNumber"]) (xfs_cons xi_BadNumber.2 n_BadNumber_name xfs_nil) hz hf (pv 5)) pa_nil)))) pss_nil) .nil))) (pss_cons (ps_ret (pv 4)) pss_nil))),
    (ss_seq (ss_set 4 (se_lst false (sa_cons (se_c fun _ => RD.str _) sa_nil))) (ss_seq (ss_try (tb := fun W => (tSeq (tIfS (tTest (tOp (rEqS K) (tVar 1) (tC (.str (PySem.Str.ofString "gain"))))) (tSeq (tDrop (tMe (ca K "Numbers") "gain" (spF K r_Numbers_gain) [] (WE W) (tVar 0) (tCons (tVar 2) (tCons (tVar 3) tNil)))) tNext) (tSeq (tIfS (tTest (tOp (rEqS K) (tVar 1) (tC (.str (PySem.Str.ofString "gains"))))) (tSeq (tDrop (tMe (ca K "Numbers") "gains" (spF K r_Numbers_gains) [] (WE W) (tVar 0) (tCons (tVar 2) (tCons (tVar 3) tNil)))) tNext) (tSeq (tDrop (tMe (ca K "Numbers") "swaps" (spF K r_Numbers_swaps) [] (WE W) (tVar 0) (tCons (tVar 2) (tCons (tVar 3) tNil)))) tNext)) tNext)) tNext)) (fun w => (ss_seq (ss_if (st_v (se_op (o_eq) (se_var 1) (se_c fun _ => RD.str _))) (ss_seq (ss_drop (se_me (fun _ => .nil) (se_var 0) (sa_cons (se_var 2) (sa_cons (se_var 3) sa_nil)))) ss_next) (ss_seq (ss_if (st_v (se_op (o_eq) (se_var 1) (se_c fun _ => RD.str _))) (ss_seq (ss_drop (se_me (fun _ => .nil) (se_var 0) (sa_cons (se_var 2) (sa_cons (se_var 3) sa_nil)))) ss_next) (ss_seq (ss_drop (se_me (fun _ => .nil) (se_var 0) (sa_cons (se_var 2) (sa_cons (se_var 3) sa_nil)))) ss_next)) ss_next)) ss_next)) (HdRel.cons (h := ⟨E_BadRank, 5, fun c fs => esSeq (esAsg (evLst false (eaCons (evC (.str (PySem.Str.ofString "rank"))) (eaCons (evXf fs "rank") eaNil))) (egName 4)) esNext⟩) (cs := ["BadRank"]) ex_BadRank (tc_of (by decide +kernel)) (sh_seq (sh_asg fun a d c fs hc => (se_lst false (sa_cons (se_c fun _ => RD.str _) (sa_cons (se_xf hc) sa_nil)))) ss_next) (HdRel.cons (h := ⟨E_BadNumber, 5, fun c fs => esSeq (esAsg (evLst false (eaCons (evC (.str (PySem.Str.ofString "number"))) (eaCons (evXf fs "name") eaNil))) (egName 4)) esNext⟩) (cs := ["BadNumber"]) ex_BadNumber (tc_of (by decide +kernel)) (sh_seq (sh_asg fun a d c fs hc => (se_lst false (sa_cons (se_c fun _ => RD.str _) (sa_cons (se_xf hc) sa_nil)))) ss_next) .nil))) (ss_seq (ss_ret (se_var 4)) ss_next)))⟩
def x__law_refusals : Es := (esSeq (esAsg (evCB gLen (eaCons (evVar 0) eaNil)) (egName 2)) (esSeq (esFor (eiSeq (evLst false (eaCons (evTup (eaCons (evUn gNeg (evC (.int 1))) (eaCons (evC (.int 1)) eaNil))) (eaCons (evTup (eaCons (evC (.int 1)) (eaCons (evC .non) eaNil))) (eaCons (evTup (eaCons (evC (.bl true)) (eaCons (evC (.int 1)) eaNil))) (eaCons (evTup (eaCons (evC (.int 1)) (eaCons (evC (.int 2)) (eaCons (evC (.int 3)) eaNil)))) (eaCons (evC (.int 7)) (eaCons (evC .non) eaNil)))))))) (.one (egName 3)) (esSeq (esIf (etV (evBin (gNe) (evCall r__law_made (eaCons (evBin (gAdd false) (evCB (gList false) (eaCons (evVar 0) eaNil)) (evLst false (eaCons (evVar 3) (eaCons (evTup (eaCons (evC (.int 1)) (eaCons (evC .non) eaNil))) eaNil)))) (eaCons (evTup (eaCons (evC (.int 1)) (eaCons (evC (.int 1)) eaNil))) eaNil))) (evLst false (eaCons (evC (.str (PySem.Str.ofString "numbers"))) (eaCons (evVar 2) (eaCons (evC (.bl true)) eaNil)))))) (esSeq (esRet (evC (.bl false))) esNext) esNext) (esSeq (esIf (etV (evBin (gNe) (evCall r__law_made (eaCons (evVar 0) (eaCons (evVar 3) eaNil))) (evLst false (eaCons (evC (.str (PySem.Str.ofString "numbers"))) (eaCons (evVar 2) (eaCons (evC (.bl true)) eaNil)))))) (esSeq (esRet (evC (.bl false))) esNext) esNext) esNext))) (esSeq (esIf (etOr (etV (evBin (gNe) (evCall r__law_made (eaCons (evC .non) (eaCons (evTup (eaCons (evC (.int 1)) (eaCons (evC (.int 1)) eaNil))) eaNil))) (evLst false (eaCons (evC (.str (PySem.Str.ofString "numbers"))) (eaCons (evUn gNeg (evC (.int 1))) (eaCons (evC (.bl true)) eaNil)))))) (etV (evBin (gNe) (evCall r__law_made (eaCons (evC (.str (PySem.Str.ofString "12"))) (eaCons (evTup (eaCons (evC (.int 1)) (eaCons (evC (.int 1)) eaNil))) eaNil))) (evLst false (eaCons (evC (.str (PySem.Str.ofString "numbers"))) (eaCons (evUn gNeg (evC (.int 1))) (eaCons (evC (.bl true)) eaNil))))))) (esSeq (esRet (evC (.bl false))) esNext) esNext) (esSeq (esFor (eiSeq (evLst false (eaCons (evC (.str (PySem.Str.ofString "gain"))) (eaCons (evC (.str (PySem.Str.ofString "gains"))) (eaCons (evC (.str (PySem.Str.ofString "swaps"))) eaNil))))) (.one (egName 4)) (esSeq (esFor (eiSeq (evLst false (eaCons (evUn gNeg (evC (.int 1))) (eaCons (evC .non) eaNil)))) (.one (egName 5)) (esSeq (esIf (etV (evBin (gNe) (evCall r__law_asked (eaCons (evVar 1) (eaCons (evVar 4) (eaCons (evVar 5) (eaCons (evUn gNeg (evC (.int 1))) eaNil))))) (evLst false (eaCons (evC (.str (PySem.Str.ofString "rank"))) (eaCons (evVar 5) eaNil))))) (esSeq (esRet (evC (.bl false))) esNext) esNext) esNext)) (esSeq (esFor (eiSeq (evLst false (eaCons (evUn gNeg (evC (.int 1))) (eaCons (evC .non) (eaCons (evC (.bl true)) eaNil))))) (.one (egName 6)) (esSeq (esIf (etV (evBin (gNe) (evCall r__law_asked (eaCons (evVar 1) (eaCons (evVar 4) (eaCons (evC (.int 0)) (eaCons (evVar 6) eaNil))))) (evLst false (eaCons (evC (.str (PySem.Str.ofString "number"))) (eaCons (evC (.str (PySem.Str.ofString "steps"))) eaNil))))) (esSeq (esRet (evC (.bl false))) esNext) esNext) esNext)) esNext))) (esSeq (esRet (evC (.bl true))) esNext)))))
abbrev r__law_refusals : G.Run := runF 2 7 x__law_refusals
theorem sc__law_refusals : FnScope ["_law_pairs", "_law_numbers", "_law_many", "_law_bad", "_law_call", "_law_start", "_law_steps"] ["_law_pairs", "_law_numbers"] (defScope (top 36)) := ⟨rfl, rfl, rfl, by decide +kernel, rfl, by decide +kernel, by decide +kernel⟩
theorem ok__law_refusals (KB : K.In base) (GB : base.Ns mainGlobals mg) (c : Says ts fn K) : Def P w K mg base 9 (gAt "_law_refusals" K) ["_law_pairs", "_law_numbers"] (spF K r__law_refusals) (All K ["_law_pairs", "_law_numbers"]) := by
  obtain ⟨fd, F⟩ := c.def_ 43 (d := d__law_refusals) rfl
  have g_len := He.free_ok KB GB (c.test 49 (t := (He.Fa.free "len").ok) rfl)
  have g_list := He.free_ok KB GB (c.test 50 (t := (He.Fa.free "list").ok) rfl)
  obtain ⟨fd__law_made, F__law_made, B__law_made, P__law_made⟩ := (ok__law_made (P := P) (w := w) KB GB c).ex
  have g__law_made := He.glo_ok KB GB (c.test 29 (t := (He.Fa.glo "_law_made").ok) rfl)
  obtain ⟨fd__law_asked, F__law_asked, B__law_asked, P__law_asked⟩ := (ok__law_asked (P := P) (w := w) KB GB c).ex
  have g__law_asked := He.glo_ok KB GB (c.test 30 (t := (He.Fa.glo "_law_asked").ok) rfl)
  have sc := sc__law_refusals
  refine ⟨fd, fn_ok F sc 7 rfl fun cdv A outer s H E hr => ?_, F.bindsN fun _ _ _ _ _ _ us hl => match us, hl with | [_, _], _ => rfl, F.kp⟩
  exact ⟨_, (pss_cons (ps_set (i := 2) sc.nd rfl loc (pe_callB call_len rfl g_len b_len (pa_cons (pv 0) pa_nil))) (pss_cons (ps_for (passes_of rfl) rfl (pi_seq (pi_list (pe_lst (pa_cons (pe_tup (pa_cons (pe_un un_neg pe_int) (pa_cons pe_int pa_nil))) (pa_cons (pe_tup (pa_cons pe_int (pa_cons pe_non pa_nil))) (pa_cons (pe_tup (pa_cons pe_bl (pa_cons pe_int pa_nil))) (pa_cons (pe_tup (pa_cons pe_int (pa_cons pe_int (pa_cons pe_int pa_nil)))) (pa_cons pe_int (pa_cons pe_non pa_nil)))))))) (pi_tup (pe_lst (pa_cons (pe_tup (pa_cons (pe_un un_neg pe_int) (pa_cons pe_int pa_nil))) (pa_cons (pe_tup (pa_cons pe_int (pa_cons pe_non pa_nil))) (pa_cons (pe_tup (pa_cons pe_bl (pa_cons pe_int pa_nil))) (pa_cons (pe_tup (pa_cons pe_int (pa_cons pe_int (pa_cons pe_int pa_nil)))) (pa_cons pe_int (pa_cons pe_non pa_nil)))))))) (pi_str (pe_lst (pa_cons (pe_tup (pa_cons (pe_un un_neg pe_int) (pa_cons pe_int pa_nil))) (pa_cons (pe_tup (pa_cons pe_int (pa_cons pe_non pa_nil))) (pa_cons (pe_tup (pa_cons pe_bl (pa_cons pe_int pa_nil))) (pa_cons (pe_tup (pa_cons pe_int (pa_cons pe_int (pa_cons pe_int pa_nil)))) (pa_cons pe_int (pa_cons pe_non pa_nil))))))))) (pg_name sc.nd (i := 3) rfl loc) (pss_cons (ps_if (pt_cmpR (op_neS hr.units) (pe_callS F__law_made (hr.mono (by decide)) rfl g__law_made P__law_made B__law_made (fun σ => passAt (takes_of rfl rfl rfl rfl) σ) (pa_cons (pe_op op_plus (pe_callTy call_list_of rfl g_list b_list (pa_cons (pv 0) pa_nil)) (pe_lst (pa_cons (pv 3) (pa_cons (pe_tup (pa_cons pe_int (pa_cons pe_non pa_nil))) pa_nil)))) (pa_cons (pe_tup (pa_cons pe_int (pa_cons pe_int pa_nil))) pa_nil))) (pe_lst (pa_cons pe_str (pa_cons (pv 2) (pa_cons pe_bl pa_nil)))) (nomark _)) (pss_cons (ps_ret pe_bl) pss_nil) pss_nil) (pss_cons (ps_if (pt_cmpR (op_neS hr.units) (pe_callS F__law_made (hr.mono (by decide)) rfl g__law_made P__law_made B__law_made (fun σ => passAt (takes_of rfl rfl rfl rfl) σ) (pa_cons (pv 0) (pa_cons (pv 3) pa_nil))) (pe_lst (pa_cons pe_str (pa_cons (pv 2) (pa_cons pe_bl pa_nil)))) (nomark _)) (pss_cons (ps_ret pe_bl) pss_nil) pss_nil) pss_nil))) (pss_cons (ps_if (PW.pt (pw_or (pt_cmpR (op_neS hr.units) (pe_callS F__law_made (hr.mono (by decide)) rfl g__law_made P__law_made B__law_made (fun σ => passAt (takes_of rfl rfl rfl rfl) σ) (pa_cons pe_non (pa_cons (pe_tup (pa_cons pe_int (pa_cons pe_int pa_nil))) pa_nil))) (pe_lst (pa_cons pe_str (pa_cons (pe_un un_neg pe_int) (pa_cons pe_bl pa_nil)))) (nomark _)) (pw_or1 (pt_cmpR (op_neS hr.units) (pe_callS F__law_made (hr.mono (by decide)) rfl g__law_made P__law_made B__law_made (fun σ => passAt (takes_of rfl rfl rfl rfl) σ) (pa_cons pe_str (pa_cons (pe_tup (pa_cons pe_int (pa_cons pe_int pa_nil))) pa_nil))) (pe_lst (pa_cons pe_str (pa_cons (pe_un un_neg pe_int) (pa_cons pe_bl pa_nil)))) (nomark _))))) (pss_cons (ps_ret pe_bl) pss_nil) pss_nil) (pss_cons (ps_for (passes_of rfl) rfl (pi_seq (pi_list (pe_lst (pa_cons pe_str (pa_cons pe_str (pa_cons pe_str pa_nil))))) (pi_tup (pe_lst (pa_cons pe_str (pa_cons pe_str (pa_cons pe_str pa_nil))))) (pi_str (pe_lst (pa_cons pe_str (pa_cons pe_str (pa_cons pe_str pa_nil)))))) (pg_name sc.nd (i := 4) rfl loc) (pss_cons (ps_for (passes_of rfl) rfl (pi_seq (pi_list (pe_lst (pa_cons (pe_un un_neg pe_int) (pa_cons pe_non pa_nil)))) (pi_tup (pe_lst (pa_cons (pe_un un_neg pe_int) (pa_cons pe_non pa_nil)))) (pi_str (pe_lst (pa_cons (pe_un un_neg pe_int) (pa_cons pe_non pa_nil))))) (pg_name sc.nd (i := 5) rfl loc) (pss_cons (ps_if (pt_cmpR (op_neS hr.units) (pe_callS F__law_asked (hr.mono (by decide)) rfl g__law_asked P__law_asked B__law_asked (fun σ => passAt (takes_of rfl rfl rfl rfl) σ) (pa_cons (pv 1) (pa_cons (pv 4) (pa_cons (pv 5) (pa_cons (pe_un un_neg pe_int) pa_nil))))) (pe_lst (pa_cons pe_str (pa_cons (pv 5) pa_nil))) (nomark _)) (pss_cons (ps_ret pe_bl) pss_nil) pss_nil) pss_nil)) (pss_cons (ps_for (passes_of rfl) rfl (pi_seq (pi_list (pe_lst (pa_cons (pe_un un_neg pe_int) (pa_cons pe_non (pa_cons pe_bl pa_nil))))) (pi_tup (pe_lst (pa_cons (pe_un un_neg pe_int) (pa_cons pe_non (pa_cons pe_bl pa_nil))))) (pi_str (pe_lst (pa_cons (pe_un un_neg pe_int) (pa_cons pe_non (pa_cons pe_bl pa_nil)))))) (pg_name sc.nd (i := 6) rfl loc) (pss_cons (ps_if (pt_cmpR (op_neS hr.units) (pe_callS F__law_asked (hr.mono (by decide)) rfl g__law_asked P__law_asked B__law_asked (fun σ => passAt (takes_of rfl rfl rfl rfl) σ) (pa_cons (pv 1) (pa_cons (pv 4) (pa_cons pe_int (pa_cons (pv 6) pa_nil))))) (pe_lst (pa_cons pe_str (pa_cons pe_str pa_nil))) (nomark _)) (pss_cons (ps_ret pe_bl) pss_nil) pss_nil) pss_nil)) pss_nil))) (pss_cons (ps_ret pe_bl) pss_nil))))),
    (ss_seq (ss_set 2 (se_cb oc_len (sa_cons (se_var 0) sa_nil))) (ss_seq (ss_for (si_seq (se_lst false (sa_cons (se_tup (sa_cons (se_un o_neg (se_c fun _ => RD.int _)) (sa_cons (se_c fun _ => RD.int _) sa_nil))) (sa_cons (se_tup (sa_cons (se_c fun _ => RD.int _) (sa_cons (se_c fun _ => RD.non) sa_nil))) (sa_cons (se_tup (sa_cons (se_c fun _ => RD.bl _) (sa_cons (se_c fun _ => RD.int _) sa_nil))) (sa_cons (se_tup (sa_cons (se_c fun _ => RD.int _) (sa_cons (se_c fun _ => RD.int _) (sa_cons (se_c fun _ => RD.int _) sa_nil)))) (sa_cons (se_c fun _ => RD.int _) (sa_cons (se_c fun _ => RD.non) sa_nil)))))))) (stk_one (sg_name 3)) (ss_seq (ss_if (st_v (se_op (o_ne) (se_call (sa_cons (se_op (o_add false) (se_cb (oc_list false) (sa_cons (se_var 0) sa_nil)) (se_lst false (sa_cons (se_var 3) (sa_cons (se_tup (sa_cons (se_c fun _ => RD.int _) (sa_cons (se_c fun _ => RD.non) sa_nil))) sa_nil)))) (sa_cons (se_tup (sa_cons (se_c fun _ => RD.int _) (sa_cons (se_c fun _ => RD.int _) sa_nil))) sa_nil))) (se_lst false (sa_cons (se_c fun _ => RD.str _) (sa_cons (se_var 2) (sa_cons (se_c fun _ => RD.bl _) sa_nil)))))) (ss_seq (ss_ret (se_c fun _ => RD.bl _)) ss_next) ss_next) (ss_seq (ss_if (st_v (se_op (o_ne) (se_call (sa_cons (se_var 0) (sa_cons (se_var 3) sa_nil))) (se_lst false (sa_cons (se_c fun _ => RD.str _) (sa_cons (se_var 2) (sa_cons (se_c fun _ => RD.bl _) sa_nil)))))) (ss_seq (ss_ret (se_c fun _ => RD.bl _)) ss_next) ss_next) ss_next))) (ss_seq (ss_if (st_or (st_v (se_op (o_ne) (se_call (sa_cons (se_c fun _ => RD.non) (sa_cons (se_tup (sa_cons (se_c fun _ => RD.int _) (sa_cons (se_c fun _ => RD.int _) sa_nil))) sa_nil))) (se_lst false (sa_cons (se_c fun _ => RD.str _) (sa_cons (se_un o_neg (se_c fun _ => RD.int _)) (sa_cons (se_c fun _ => RD.bl _) sa_nil)))))) (st_v (se_op (o_ne) (se_call (sa_cons (se_c fun _ => RD.str _) (sa_cons (se_tup (sa_cons (se_c fun _ => RD.int _) (sa_cons (se_c fun _ => RD.int _) sa_nil))) sa_nil))) (se_lst false (sa_cons (se_c fun _ => RD.str _) (sa_cons (se_un o_neg (se_c fun _ => RD.int _)) (sa_cons (se_c fun _ => RD.bl _) sa_nil))))))) (ss_seq (ss_ret (se_c fun _ => RD.bl _)) ss_next) ss_next) (ss_seq (ss_for (si_seq (se_lst false (sa_cons (se_c fun _ => RD.str _) (sa_cons (se_c fun _ => RD.str _) (sa_cons (se_c fun _ => RD.str _) sa_nil))))) (stk_one (sg_name 4)) (ss_seq (ss_for (si_seq (se_lst false (sa_cons (se_un o_neg (se_c fun _ => RD.int _)) (sa_cons (se_c fun _ => RD.non) sa_nil)))) (stk_one (sg_name 5)) (ss_seq (ss_if (st_v (se_op (o_ne) (se_call (sa_cons (se_var 1) (sa_cons (se_var 4) (sa_cons (se_var 5) (sa_cons (se_un o_neg (se_c fun _ => RD.int _)) sa_nil))))) (se_lst false (sa_cons (se_c fun _ => RD.str _) (sa_cons (se_var 5) sa_nil))))) (ss_seq (ss_ret (se_c fun _ => RD.bl _)) ss_next) ss_next) ss_next)) (ss_seq (ss_for (si_seq (se_lst false (sa_cons (se_un o_neg (se_c fun _ => RD.int _)) (sa_cons (se_c fun _ => RD.non) (sa_cons (se_c fun _ => RD.bl _) sa_nil))))) (stk_one (sg_name 6)) (ss_seq (ss_if (st_v (se_op (o_ne) (se_call (sa_cons (se_var 1) (sa_cons (se_var 4) (sa_cons (se_c fun _ => RD.int _) (sa_cons (se_var 6) sa_nil))))) (se_lst false (sa_cons (se_c fun _ => RD.str _) (sa_cons (se_c fun _ => RD.str _) sa_nil))))) (ss_seq (ss_ret (se_c fun _ => RD.bl _)) ss_next) ss_next) ss_next)) ss_next))) (ss_seq (ss_ret (se_c fun _ => RD.bl _)) ss_next)))))⟩
def x__law_first : Es := (esSeq (esFor (eiRng2 (eaCons (evC (.int 1)) (eaCons (evBin (gAdd false) (evBin (gMinus) (evVar 3) (evVar 2)) (evC (.int 1))) eaNil))) (.one (egName 5)) (esSeq (esAsg (evCall r__law_sum (eaCons (evVar 0) (eaCons (evVar 1) (eaCons (evVar 2) (eaCons (evVar 5) eaNil))))) (egName 6)) (esSeq (esIf (etOr (etV (evBin (gEq) (evVar 6) (evC (.int 0)))) (etAnd (etV (evBin (gEq) (evVar 4) (evC (.str (PySem.Str.ofString "above"))))) (etV (evBin (gCmp (fun i j => decide (i < j))) (evVar 6) (evC (.int 0)))))) (esSeq (esRet (evVar 5)) esNext) esNext) esNext))) (esSeq (esRet (evC .non)) esNext))
abbrev r__law_first : G.Run := runF 5 7 x__law_first
theorem sc__law_first : FnScope ["_law_pairs", "_law_tail", "_law_start", "_law_most", "_law_wanted", "_law_steps", "_law_gain"] ["_law_pairs", "_law_tail", "_law_start", "_law_most", "_law_wanted"] (defScope (top 37)) := ⟨rfl, rfl, rfl, by decide +kernel, rfl, by decide +kernel, by decide +kernel⟩
theorem ok__law_first (KB : K.In base) (GB : base.Ns mainGlobals mg) (c : Says ts fn K) : Def P w K mg base 3 (gAt "_law_first" K) ["_law_pairs", "_law_tail", "_law_start", "_law_most", "_law_wanted"] (spF K r__law_first) (All K ["_law_pairs", "_law_tail", "_law_start", "_law_most", "_law_wanted"]) := by
  obtain ⟨fd, F⟩ := c.def_ 44 (d := d__law_first) rfl
  have g_range := He.free_ok KB GB (c.test 53 (t := (He.Fa.free "range").ok) rfl)
  obtain ⟨fd__law_sum, F__law_sum, B__law_sum, P__law_sum⟩ := (ok__law_sum (P := P) (w := w) KB GB c).ex
  have g__law_sum := He.glo_ok KB GB (c.test 28 (t := (He.Fa.glo "_law_sum").ok) rfl)
  have sc := sc__law_first
  refine ⟨fd, fn_ok F sc 7 rfl fun cdv A outer s H E hr => ?_, F.bindsN fun _ _ _ _ _ _ us hl => match us, hl with | [_, _, _, _, _], _ => rfl, F.kp⟩
  exact ⟨_, (pss_cons (ps_for (passes_of rfl) rfl (pi_range2 rfl g_range (pa_cons pe_int (pa_cons (pe_op op_plus (pe_op op_sub (pv 3) (pv 2)) pe_int) pa_nil))) (pg_name sc.nd (i := 5) rfl loc) (pss_cons (ps_set (i := 6) sc.nd rfl loc (pe_callS F__law_sum (hr.mono (by decide)) rfl g__law_sum P__law_sum B__law_sum (fun σ => passAt (takes_of rfl rfl rfl rfl) σ) (pa_cons (pv 0) (pa_cons (pv 1) (pa_cons (pv 2) (pa_cons (pv 5) pa_nil)))))) (pss_cons (ps_if (PW.pt (pw_or (pt_cmpR (op_eqS hr.units) (pv 6) pe_int (nomark _)) (pw_or1 (PW.pt (pw_and (pt_cmpR (op_eqS hr.units) (pv 4) pe_str (nomark _)) (pw_and1 (pt_cmpR op_lt (pv 6) pe_int (nomark _)))))))) (pss_cons (ps_ret (pv 5)) pss_nil) pss_nil) pss_nil))) (pss_cons (ps_ret pe_non) pss_nil)),
    (ss_seq (ss_for (si_rng2 (sa_cons (se_c fun _ => RD.int _) (sa_cons (se_op (o_add false) (se_op (o_sub) (se_var 3) (se_var 2)) (se_c fun _ => RD.int _)) sa_nil))) (stk_one (sg_name 5)) (ss_seq (ss_set 6 (se_call (sa_cons (se_var 0) (sa_cons (se_var 1) (sa_cons (se_var 2) (sa_cons (se_var 5) sa_nil)))))) (ss_seq (ss_if (st_or (st_v (se_op (o_eq) (se_var 6) (se_c fun _ => RD.int _))) (st_and (st_v (se_op (o_eq) (se_var 4) (se_c fun _ => RD.str _))) (st_v (se_op (o_cmp _) (se_var 6) (se_c fun _ => RD.int _))))) (ss_seq (ss_ret (se_var 5)) ss_next) ss_next) ss_next))) (ss_seq (ss_ret (se_c fun _ => RD.non)) ss_next))⟩
def x__law_words_right : Es := (esSeq (esAsg (evVar 4) (egName 6)) (esSeq (esAsg (evC (.int 1)) (egName 7)) (esSeq (esAsg (evBin (gAdd false) (evBin gIx (evVar 5) (evC (.int 0))) (evBin gIx (evVar 5) (evC (.int 1)))) (egName 8)) (esSeq (esFor (eiSeq (evVar 8)) (.one (egName 9)) (esSeq (esIf (etV (evBin (gEq) (evVar 9) (evC (.str (PySem.Str.ofString "u"))))) (esSeq (esAug 6 gAddI (evC (.int 1))) esNext) (esSeq (esIf (etV (evBin (gCmp (fun i j => decide (i ≤ j))) (evVar 6) (evVar 3))) (esSeq (esAsg (evC (.int 0)) (egName 7)) esNext) (esSeq (esAsg (evBin (gMul false) (evVar 7) (evCall r__law_sum (eaCons (evVar 1) (eaCons (evVar 2) (eaCons (evVar 3) (eaCons (evBin (gMinus) (evVar 6) (evVar 3)) eaNil)))))) (egName 7)) esNext)) (esSeq (esAug 6 gMinus (evC (.int 1))) esNext))) esNext)) (esSeq (esAsg (evBin (gMinus) (evBM isS gCount (evBin gIx (evVar 5) (evC (.int 0))) (eaCons (evC (.str (PySem.Str.ofString "u"))) eaNil)) (evBM isS gCount (evBin gIx (evVar 5) (evC (.int 0))) (eaCons (evC (.str (PySem.Str.ofString "d"))) eaNil))) (egName 10)) (esSeq (esAsg (evMe "Numbers" "val" r_Numbers_val [] (evVar 0) (eaCons (evVar 3) (eaCons (evVar 4) (eaCons (evVar 8) eaNil)))) (egName 11)) (esSeq (esIf (etOr (etNot (etV (evCall r__law_int (eaCons (evVar 11) eaNil)))) (etV (evBin (gNe) (evVar 11) (evVar 7)))) (esSeq (esRet (evC (.bl false))) esNext) esNext) (esSeq (esIf (etV (evBin (gCmp (fun i j => decide (j ≤ i))) (evBin (gAdd false) (evVar 4) (evVar 10)) (evVar 3))) (esSeq (esAsg (evBin (gMul false) (evMe "Numbers" "val" r_Numbers_val [] (evVar 0) (eaCons (evVar 3) (eaCons (evVar 4) (eaCons (evBin gIx (evVar 5) (evC (.int 0))) eaNil)))) (evMe "Numbers" "val" r_Numbers_val [] (evVar 0) (eaCons (evVar 3) (eaCons (evBin (gAdd false) (evVar 4) (evVar 10)) (eaCons (evBin gIx (evVar 5) (evC (.int 1))) eaNil))))) (egName 12)) (esSeq (esRet (evBin (gEq) (evVar 12) (evVar 7))) esNext)) esNext) (esSeq (esRet (evAnd (evBin (gEq) (evMe "Numbers" "val" r_Numbers_val [] (evVar 0) (eaCons (evVar 3) (eaCons (evVar 4) (eaCons (evBin gIx (evVar 5) (evC (.int 0))) eaNil)))) (evC (.int 0))) (evBin (gEq) (evVar 7) (evC (.int 0))))) esNext)))))))))
abbrev r__law_words_right : G.Run := runF 6 13 x__law_words_right
theorem sc__law_words_right : FnScope ["_law_numbers", "_law_pairs", "_law_tail", "_law_start", "_law_rank", "_law_words", "_law_height", "_law_due", "_law_whole", "_law_letter", "_law_first_here", "_law_told", "_law_parts"] ["_law_numbers", "_law_pairs", "_law_tail", "_law_start", "_law_rank", "_law_words"] (defScope (top 38)) := ⟨rfl, rfl, rfl, by decide +kernel, rfl, by decide +kernel, by decide +kernel⟩
theorem ok__law_words_right (KB : K.In base) (GB : base.Ns mainGlobals mg) (c : Says ts fn K) : Def P w K mg base 9 (gAt "_law_words_right" K) ["_law_numbers", "_law_pairs", "_law_tail", "_law_start", "_law_rank", "_law_words"] (spF K r__law_words_right) (All K ["_law_numbers", "_law_pairs", "_law_tail", "_law_start", "_law_rank", "_law_words"]) := by
  obtain ⟨fd, F⟩ := c.def_ 45 (d := d__law_words_right) rfl
  obtain ⟨fd__law_sum, F__law_sum, B__law_sum, P__law_sum⟩ := (ok__law_sum (P := P) (w := w) KB GB c).ex
  have g__law_sum := He.glo_ok KB GB (c.test 28 (t := (He.Fa.glo "_law_sum").ok) rfl)
  obtain ⟨fd_Numbers_val, F_Numbers_val, B_Numbers_val, P_Numbers_val⟩ := (ok_Numbers_val (P := P) (w := w) KB GB c).ex
  have in_Numbers := insB_ok (c.test 77 (t := insB "Numbers") rfl)
  have mt_Numbers_val := He.meth_ok (c.test 90 (t := (He.Fa.meth "Numbers" "val").ok) rfl)
  obtain ⟨fd__law_int, F__law_int, B__law_int, P__law_int⟩ := (ok__law_int (P := P) (w := w) KB GB c).ex
  have g__law_int := He.glo_ok KB GB (c.test 25 (t := (He.Fa.glo "_law_int").ok) rfl)
  have sc := sc__law_words_right
  refine ⟨fd, fn_ok F sc 13 rfl fun cdv A outer s H E hr => ?_, F.bindsN fun _ _ _ _ _ _ us hl => match us, hl with | [_, _, _, _, _, _], _ => rfl, F.kp⟩
  exact ⟨_, (pss_cons (ps_set (i := 6) sc.nd rfl loc (pv 4)) (pss_cons (ps_set (i := 7) sc.nd rfl loc pe_int) (pss_cons (ps_set (i := 8) sc.nd rfl loc (pe_op op_plus (pe_ix ix_seq (pv 5) pe_int (fun _ _ => rfl)) (pe_ix ix_seq (pv 5) pe_int (fun _ _ => rfl)))) (pss_cons (ps_for (passes_of rfl) rfl (pi_seq (pi_list (pv 8)) (pi_tup (pv 8)) (pi_str (pv 8))) (pg_name sc.nd (i := 9) rfl loc) (pss_cons (ps_if (pt_cmpR (op_eqS hr.units) (pv 9) pe_str (nomark _)) (pss_cons (ps_aug (i := 6) sc.nd rfl loc pe_int iop_plus) pss_nil) (pss_cons (ps_if (pt_cmpR op_le (pv 6) (pv 3) (nomark _)) (pss_cons (ps_set (i := 7) sc.nd rfl loc pe_int) pss_nil) (pss_cons (ps_set (i := 7) sc.nd rfl loc (pe_op op_times (pv 7) (pe_callS F__law_sum (hr.mono (by decide)) rfl g__law_sum P__law_sum B__law_sum (fun σ => passAt (takes_of rfl rfl rfl rfl) σ) (pa_cons (pv 1) (pa_cons (pv 2) (pa_cons (pv 3) (pa_cons (pe_op op_sub (pv 6) (pv 3)) pa_nil))))))) pss_nil)) (pss_cons (ps_aug (i := 6) sc.nd rfl loc pe_int iop_minus) pss_nil))) pss_nil)) (pss_cons (ps_set (i := 10) sc.nd rfl loc (pe_op op_sub (pe_bm PySem.F.plainAttrs_str PySem.F.slot_str_count PySem.F.type_str_count mt_count (pe_ix ix_seq (pv 5) pe_int (fun _ _ => rfl)) (pa_cons pe_str pa_nil)) (pe_bm PySem.F.plainAttrs_str PySem.F.slot_str_count PySem.F.type_str_count mt_count (pe_ix ix_seq (pv 5) pe_int (fun _ _ => rfl)) (pa_cons pe_str pa_nil)))) (pss_cons (ps_set (i := 11) sc.nd rfl loc (pe_me (pv 0) in_Numbers.cl mt_Numbers_val F_Numbers_val (hr.mono (by decide)) B_Numbers_val .nil (fun σ => passAt (takes_of rfl rfl rfl rfl) σ) (pa_cons (pv 3) (pa_cons (pv 4) (pa_cons (pv 8) pa_nil))))) (pss_cons (ps_if (PW.pt (pw_or (pt_not (pt_val (pe_callS F__law_int (hr.mono (by decide)) rfl g__law_int P__law_int B__law_int (fun σ => passAt (takes_of rfl rfl rfl rfl) σ) (pa_cons (pv 11) pa_nil)))) (pw_or1 (pt_cmpR (op_neS hr.units) (pv 11) (pv 7) (nomark _))))) (pss_cons (ps_ret pe_bl) pss_nil) pss_nil) (pss_cons (ps_if (pt_cmpR op_ge (pe_op op_plus (pv 4) (pv 10)) (pv 3) (nomark _)) (pss_cons (ps_set (i := 12) sc.nd rfl loc (pe_op op_times (pe_me (pv 0) in_Numbers.cl mt_Numbers_val F_Numbers_val (hr.mono (by decide)) B_Numbers_val .nil (fun σ => passAt (takes_of rfl rfl rfl rfl) σ) (pa_cons (pv 3) (pa_cons (pv 4) (pa_cons (pe_ix ix_seq (pv 5) pe_int (fun _ _ => rfl)) pa_nil)))) (pe_me (pv 0) in_Numbers.cl mt_Numbers_val F_Numbers_val (hr.mono (by decide)) B_Numbers_val .nil (fun σ => passAt (takes_of rfl rfl rfl rfl) σ) (pa_cons (pv 3) (pa_cons (pe_op op_plus (pv 4) (pv 10)) (pa_cons (pe_ix ix_seq (pv 5) pe_int (fun _ _ => rfl)) pa_nil)))))) (pss_cons (ps_ret (pe_cmpR (op_eqS hr.units) (pv 12) (pv 7) (nomark _))) pss_nil)) pss_nil) (pss_cons (ps_ret (pe_and (pe_cmpR (op_eqS hr.units) (pe_me (pv 0) in_Numbers.cl mt_Numbers_val F_Numbers_val (hr.mono (by decide)) B_Numbers_val .nil (fun σ => passAt (takes_of rfl rfl rfl rfl) σ) (pa_cons (pv 3) (pa_cons (pv 4) (pa_cons (pe_ix ix_seq (pv 5) pe_int (fun _ _ => rfl)) pa_nil)))) pe_int (nomark _)) (pe_one (pe_cmpR (op_eqS hr.units) (pv 7) pe_int (nomark _))))) pss_nil))))))))),
    (ss_seq (ss_set 6 (se_var 4)) (ss_seq (ss_set 7 (se_c fun _ => RD.int _)) (ss_seq (ss_set 8 (se_op (o_add false) (se_op o_ix (se_var 5) (se_c fun _ => RD.int _)) (se_op o_ix (se_var 5) (se_c fun _ => RD.int _)))) (ss_seq (ss_for (si_seq (se_var 8)) (stk_one (sg_name 9)) (ss_seq (ss_if (st_v (se_op (o_eq) (se_var 9) (se_c fun _ => RD.str _))) (ss_seq (ss_aug 6 (se_c fun _ => RD.int _) o_addI) ss_next) (ss_seq (ss_if (st_v (se_op (o_cmp _) (se_var 6) (se_var 3))) (ss_seq (ss_set 7 (se_c fun _ => RD.int _)) ss_next) (ss_seq (ss_set 7 (se_op (o_mul false) (se_var 7) (se_call (sa_cons (se_var 1) (sa_cons (se_var 2) (sa_cons (se_var 3) (sa_cons (se_op (o_sub) (se_var 6) (se_var 3)) sa_nil))))))) ss_next)) (ss_seq (ss_aug 6 (se_c fun _ => RD.int _) o_sub) ss_next))) ss_next)) (ss_seq (ss_set 10 (se_op (o_sub) (se_bm ty_str om_count (se_op o_ix (se_var 5) (se_c fun _ => RD.int _)) (sa_cons (se_c fun _ => RD.str _) sa_nil)) (se_bm ty_str om_count (se_op o_ix (se_var 5) (se_c fun _ => RD.int _)) (sa_cons (se_c fun _ => RD.str _) sa_nil)))) (ss_seq (ss_set 11 (se_me (fun _ => .nil) (se_var 0) (sa_cons (se_var 3) (sa_cons (se_var 4) (sa_cons (se_var 8) sa_nil))))) (ss_seq (ss_if (st_or (st_not (st_v (se_call (sa_cons (se_var 11) sa_nil)))) (st_v (se_op (o_ne) (se_var 11) (se_var 7)))) (ss_seq (ss_ret (se_c fun _ => RD.bl _)) ss_next) ss_next) (ss_seq (ss_if (st_v (se_op (o_cmp _) (se_op (o_add false) (se_var 4) (se_var 10)) (se_var 3))) (ss_seq (ss_set 12 (se_op (o_mul false) (se_me (fun _ => .nil) (se_var 0) (sa_cons (se_var 3) (sa_cons (se_var 4) (sa_cons (se_op o_ix (se_var 5) (se_c fun _ => RD.int _)) sa_nil)))) (se_me (fun _ => .nil) (se_var 0) (sa_cons (se_var 3) (sa_cons (se_op (o_add false) (se_var 4) (se_var 10)) (sa_cons (se_op o_ix (se_var 5) (se_c fun _ => RD.int _)) sa_nil)))))) (ss_seq (ss_ret (se_op (o_eq) (se_var 12) (se_var 7))) ss_next)) ss_next) (ss_seq (ss_ret (se_and (se_op (o_eq) (se_me (fun _ => .nil) (se_var 0) (sa_cons (se_var 3) (sa_cons (se_var 4) (sa_cons (se_op o_ix (se_var 5) (se_c fun _ => RD.int _)) sa_nil)))) (se_c fun _ => RD.int _)) (se_op (o_eq) (se_var 7) (se_c fun _ => RD.int _)))) ss_next)))))))))⟩
def x__law_same_from : Es := (esSeq (esFor (eiRng1 (eaCons (evVar 2) eaNil)) (.one (egName 4)) (esSeq (esIf (etV (evBin (gNe) (evSubO "Numbers" r_Numbers___getitem__ (evVar 0) (evBin (gAdd false) (evVar 4) (evVar 3))) (evSubO "Numbers" r_Numbers___getitem__ (evVar 1) (evVar 4)))) (esSeq (esRet (evC (.bl false))) esNext) esNext) esNext)) (esSeq (esRet (evC (.bl true))) esNext))
abbrev r__law_same_from : G.Run := runF 4 5 x__law_same_from
theorem sc__law_same_from : FnScope ["_law_numbers", "_law_other", "_law_many", "_law_moved", "_law_rank"] ["_law_numbers", "_law_other", "_law_many", "_law_moved"] (defScope (top 39)) := ⟨rfl, rfl, rfl, by decide +kernel, rfl, by decide +kernel, by decide +kernel⟩
theorem ok__law_same_from (KB : K.In base) (GB : base.Ns mainGlobals mg) (c : Says ts fn K) : Def P w K mg base 7 (gAt "_law_same_from" K) ["_law_numbers", "_law_other", "_law_many", "_law_moved"] (spF K r__law_same_from) (All K ["_law_numbers", "_law_other", "_law_many", "_law_moved"]) := by
  obtain ⟨fd, F⟩ := c.def_ 46 (d := d__law_same_from) rfl
  have g_range := He.free_ok KB GB (c.test 53 (t := (He.Fa.free "range").ok) rfl)
  obtain ⟨fd_Numbers___getitem__, F_Numbers___getitem__, B_Numbers___getitem__, P_Numbers___getitem__⟩ := (ok_Numbers___getitem__ (P := P) (w := w) KB GB c).ex
  have it_Numbers := itemB_ok (c.test 83 (t := itemB "Numbers") rfl)
  have sc := sc__law_same_from
  refine ⟨fd, fn_ok F sc 5 rfl fun cdv A outer s H E hr => ?_, F.bindsN fun _ _ _ _ _ _ us hl => match us, hl with | [_, _, _, _], _ => rfl, F.kp⟩
  exact ⟨_, (pss_cons (ps_for (passes_of rfl) rfl (pi_range1 rfl g_range (pa_cons (pv 2) pa_nil)) (pg_name sc.nd (i := 4) rfl loc) (pss_cons (ps_if (pt_cmpR (op_neS hr.units) (pe_subO (pv 0) (pe_op op_plus (pv 4) (pv 3)) it_Numbers.1 it_Numbers.2.1 it_Numbers.2.2 F_Numbers___getitem__ (hr.mono (by decide)) B_Numbers___getitem__ (fun σ => passAt (takes_of rfl rfl rfl rfl) σ)) (pe_subO (pv 1) (pv 4) it_Numbers.1 it_Numbers.2.1 it_Numbers.2.2 F_Numbers___getitem__ (hr.mono (by decide)) B_Numbers___getitem__ (fun σ => passAt (takes_of rfl rfl rfl rfl) σ)) (nomark _)) (pss_cons (ps_ret pe_bl) pss_nil) pss_nil) pss_nil)) (pss_cons (ps_ret pe_bl) pss_nil)),
    (ss_seq (ss_for (si_rng1 (sa_cons (se_var 2) sa_nil)) (stk_one (sg_name 4)) (ss_seq (ss_if (st_v (se_op (o_ne) (se_subO (se_var 0) (se_op (o_add false) (se_var 4) (se_var 3))) (se_subO (se_var 1) (se_var 4)))) (ss_seq (ss_ret (se_c fun _ => RD.bl _)) ss_next) ss_next) ss_next)) (ss_seq (ss_ret (se_c fun _ => RD.bl _)) ss_next))⟩
def x__law_changes_right : Es := (esSeq (esAsg (evTup (eaCons (evCall r__law_take (eaCons (evVar 0) (eaCons (evC (.int 3)) eaNil))) (eaCons (evBin (gMinus) (evCall r__law_take (eaCons (evVar 0) (eaCons (evC (.int 7)) eaNil))) (evC (.int 3))) eaNil))) (egName 4)) (esSeq (esAsg (evCall r__law_take (eaCons (evVar 0) (eaCons (evC (.int 4)) eaNil))) (egName 5)) (esSeq (esAsg (evMe "Numbers" "changed" r_Numbers_changed [] (evVar 1) (eaCons (evVar 5) (eaCons (evVar 4) eaNil))) (egName 6)) (esSeq (esIf (etOr (etV (evBin (gNe) (evSubO "Numbers" r_Numbers___getitem__ (evVar 6) (evVar 5)) (evVar 4))) (etV (evBin (gOwnEq true "Numbers" T_any_Numbers r_Numbers___eq__) (evMe "Numbers" "changed" r_Numbers_changed [] (evVar 6) (eaCons (evVar 5) (eaCons (evSubO "Numbers" r_Numbers___getitem__ (evVar 1) (evVar 5)) eaNil))) (evVar 1)))) (esSeq (esRet (evC (.bl false))) esNext) esNext) (esSeq (esIf (etV (evBin (gNe) (evBin (gOwnEq false "Numbers" T_any_Numbers r_Numbers___eq__) (evVar 6) (evVar 1)) (evBin (gEq) (evVar 4) (evCall r__law_at (eaCons (evVar 2) (eaCons (evVar 3) (eaCons (evVar 5) eaNil))))))) (esSeq (esRet (evC (.bl false))) esNext) esNext) (esSeq (esAsg (evMe "Numbers" "raised" r_Numbers_raised [] (evVar 1) (eaCons (evVar 5) (eaCons (evVar 4) eaNil))) (egName 7)) (esSeq (esIf (etOr (etNot (etV (evCall r__law_same_from (eaCons (evVar 7) (eaCons (evVar 1) (eaCons (evC (.int 9)) (eaCons (evVar 5) eaNil))))))) (etV (evBin (gOwnEq true "Numbers" T_any_Numbers r_Numbers___eq__) (evMe "Numbers" "moved" r_Numbers_moved [] (evVar 7) (eaCons (evVar 5) eaNil)) (evVar 1)))) (esSeq (esRet (evC (.bl false))) esNext) esNext) (esSeq (esFor (eiRng1 (eaCons (evVar 5) eaNil)) (.one (egName 8)) (esSeq (esIf (etV (evBin (gNe) (evSubO "Numbers" r_Numbers___getitem__ (evVar 7) (evVar 8)) (evVar 4))) (esSeq (esRet (evC (.bl false))) esNext) esNext) esNext)) (esSeq (esAsg (evAnd (evBin (gCmp (fun i j => decide (j ≤ i))) (evBin gIx (evVar 3) (evC (.int 1))) (evC (.int 1))) (evBin (gEq) (evCB gLen (eaCons (evLc false [13] (eiSeq (evVar 2)) (.one (egName 13)) (etV (evBin (gCmp (fun i j => decide (i < j))) (evBin gIx (evVar 13) (evC (.int 1))) (evC (.int 1)))) (evVar 13)) eaNil)) (evC (.int 0)))) (egName 9)) (esSeq (esAsg (evAnd (evBin (gEq) (evBin gIx (evVar 3) (evC (.int 0))) (evC (.int 1))) (evBin (gEq) (evCB gLen (eaCons (evLc false [13] (eiSeq (evVar 2)) (.one (egName 13)) (etV (evBin (gNe) (evBin gIx (evVar 13) (evC (.int 0))) (evC (.int 1)))) (evVar 13)) eaNil)) (evC (.int 0)))) (egName 10)) (esSeq (esIf (etOr (etV (evBin (gNe) (evProp "Numbers" r_Numbers_is_positive (evVar 1)) (evVar 9))) (etV (evBin (gNe) (evProp "Numbers" r_Numbers_is_plain (evVar 1)) (evVar 10)))) (esSeq (esRet (evC (.bl false))) esNext) esNext) (esSeq (esIf (etV (evBin (gOwnEq true "Numbers" T_any_Numbers r_Numbers___eq__) (evCmS "Numbers" r_Numbers_steady (eaCons (evBin gIx (evVar 4) (evC (.int 0))) (eaCons (evBin gIx (evVar 4) (evC (.int 1))) eaNil))) (evMk "Numbers" 1 1 r_Numbers___init__ (fun ws zs => ws ++ zs) (eaCons (evLst false (eaCons (evVar 4) (eaCons (evVar 4) eaNil))) eaNil) (eaCons (evVar 4) eaNil)))) (esSeq (esRet (evC (.bl false))) esNext) esNext) (esSeq (esAsg (evCmS "Numbers" r_Numbers_falling (eaCons (evVar 5) eaNil)) (egName 11)) (esSeq (esRet (evBin (gOwnEq false "Numbers" T_any_Numbers r_Numbers___eq__) (evVar 11) (evMk "Numbers" 1 1 r_Numbers___init__ (fun ws zs => ws ++ zs) (eaCons (evLc false [12] (eiRng1 (eaCons (evBin (gAdd false) (evVar 5) (evC (.int 1))) eaNil)) (.one (egName 12)) etYes (evTup (eaCons (evC (.int 1)) (eaCons (evBin (gMinus) (evVar 5) (evBin (gMul false) (evC (.int 2)) (evVar 12))) eaNil)))) eaNil) (eaCons (evTup (eaCons (evC (.int 1)) (eaCons (evBin (gMinus) (evUn gNeg (evVar 5)) (evC (.int 2))) eaNil))) eaNil)))) esNext))))))))))))))
abbrev r__law_changes_right : G.Run := runF 4 14 x__law_changes_right
theorem sc__law_changes_right : FnScope ["_law_draws_here", "_law_numbers", "_law_pairs", "_law_tail", "_law_pair", "_law_many", "_law_changed", "_law_raised", "_law_k", "_law_positive", "_law_plain", "_law_falling", "_law_n", "_law_one"] ["_law_draws_here", "_law_numbers", "_law_pairs", "_law_tail"] (defScope (top 40)) := ⟨rfl, rfl, rfl, by decide +kernel, rfl, by decide +kernel, by decide +kernel⟩
theorem ok__law_changes_right (KB : K.In base) (GB : base.Ns mainGlobals mg) (c : Says ts fn K) : Def P w K mg base 8 (gAt "_law_changes_right" K) ["_law_draws_here", "_law_numbers", "_law_pairs", "_law_tail"] (spF K r__law_changes_right) (All K ["_law_draws_here", "_law_numbers", "_law_pairs", "_law_tail"]) := by
  obtain ⟨fd, F⟩ := c.def_ 47 (d := d__law_changes_right) rfl
  obtain ⟨fd__law_take, F__law_take, B__law_take, P__law_take⟩ := (ok__law_take (P := P) (w := w) KB GB c).ex
  have g__law_take := He.glo_ok KB GB (c.test 24 (t := (He.Fa.glo "_law_take").ok) rfl)
  obtain ⟨fd_Numbers_changed, F_Numbers_changed, B_Numbers_changed, P_Numbers_changed⟩ := (ok_Numbers_changed (P := P) (w := w) KB GB c).ex
  have in_Numbers := insB_ok (c.test 77 (t := insB "Numbers") rfl)
  have mt_Numbers_changed := He.meth_ok (c.test 91 (t := (He.Fa.meth "Numbers" "changed").ok) rfl)
  obtain ⟨fd_Numbers___getitem__, F_Numbers___getitem__, B_Numbers___getitem__, P_Numbers___getitem__⟩ := (ok_Numbers___getitem__ (P := P) (w := w) KB GB c).ex
  have it_Numbers := itemB_ok (c.test 83 (t := itemB "Numbers") rfl)
  obtain ⟨fd_Numbers___eq__, F_Numbers___eq__, B_Numbers___eq__, P_Numbers___eq__⟩ := (ok_Numbers___eq__ (P := P) (w := w) KB GB c).ex
  have eq_Numbers := eqB_ok (c.test 84 (t := eqB "Numbers") rfl)
  have nf_Numbers := nfB_ok (c.test 105 (t := nfB "Numbers" T_any_Numbers) rfl)
  obtain ⟨fd__law_at, F__law_at, B__law_at, P__law_at⟩ := (ok__law_at (P := P) (w := w) KB GB c).ex
  have g__law_at := He.glo_ok KB GB (c.test 27 (t := (He.Fa.glo "_law_at").ok) rfl)
  obtain ⟨fd_Numbers_raised, F_Numbers_raised, B_Numbers_raised, P_Numbers_raised⟩ := (ok_Numbers_raised (P := P) (w := w) KB GB c).ex
  have mt_Numbers_raised := He.meth_ok (c.test 93 (t := (He.Fa.meth "Numbers" "raised").ok) rfl)
  obtain ⟨fd__law_same_from, F__law_same_from, B__law_same_from, P__law_same_from⟩ := (ok__law_same_from (P := P) (w := w) KB GB c).ex
  have g__law_same_from := He.glo_ok KB GB (c.test 34 (t := (He.Fa.glo "_law_same_from").ok) rfl)
  obtain ⟨fd_Numbers_moved, F_Numbers_moved, B_Numbers_moved, P_Numbers_moved⟩ := (ok_Numbers_moved (P := P) (w := w) KB GB c).ex
  have mt_Numbers_moved := He.meth_ok (c.test 92 (t := (He.Fa.meth "Numbers" "moved").ok) rfl)
  have g_range := He.free_ok KB GB (c.test 53 (t := (He.Fa.free "range").ok) rfl)
  have g_len := He.free_ok KB GB (c.test 49 (t := (He.Fa.free "len").ok) rfl)
  obtain ⟨fd_Numbers_is_positive, F_Numbers_is_positive, B_Numbers_is_positive, P_Numbers_is_positive⟩ := (ok_Numbers_is_positive (P := P) (w := w) KB GB c).ex
  have p_Numbers_is_positive := propB_ok (c.test 85 (t := propB "Numbers" "is_positive") rfl)
  obtain ⟨fd_Numbers_is_plain, F_Numbers_is_plain, B_Numbers_is_plain, P_Numbers_is_plain⟩ := (ok_Numbers_is_plain (P := P) (w := w) KB GB c).ex
  have p_Numbers_is_plain := propB_ok (c.test 86 (t := propB "Numbers" "is_plain") rfl)
  obtain ⟨fd_Numbers_steady, F_Numbers_steady, B_Numbers_steady, P_Numbers_steady⟩ := (ok_Numbers_steady (P := P) (w := w) KB GB c).ex
  have g_Numbers := He.glo_ok KB GB (c.test 20 (t := (He.Fa.glo "Numbers").ok) rfl)
  have cr_Numbers := creadB_ok (c.test 79 (t := creadB "Numbers") rfl)
  have cm_Numbers_steady := cmetB_ok (c.test 80 (t := cmetB "Numbers" "steady") rfl)
  obtain ⟨fd_Numbers___init__, F_Numbers___init__, B_Numbers___init__, P_Numbers___init__⟩ := (ok_Numbers___init__ (P := P) (w := w) KB GB c).ex
  have mk_Numbers := He.mkr_ok (c.test 78 (t := (He.Fa.mkr "Numbers").ok) rfl)
  obtain ⟨gK_Numbers___init__, K_Numbers___init__⟩ := B_Numbers___init__
  obtain ⟨fd_Numbers_falling, F_Numbers_falling, B_Numbers_falling, P_Numbers_falling⟩ := (ok_Numbers_falling (P := P) (w := w) KB GB c).ex
  have cm_Numbers_falling := cmetB_ok (c.test 82 (t := cmetB "Numbers" "falling") rfl)
  have sc := sc__law_changes_right
  refine ⟨fd, fn_ok F sc 14 rfl fun cdv A outer s H E hr => ?_, F.bindsN fun _ _ _ _ _ _ us hl => match us, hl with | [_, _, _, _], _ => rfl, F.kp⟩
  exact ⟨_, (pss_cons (ps_set (i := 4) sc.nd rfl loc (pe_tup (pa_cons (pe_callS F__law_take (hr.mono (by decide)) rfl g__law_take P__law_take B__law_take (fun σ => passAt (takes_of rfl rfl rfl rfl) σ) (pa_cons (pv 0) (pa_cons pe_int pa_nil))) (pa_cons (pe_op op_sub (pe_callS F__law_take (hr.mono (by decide)) rfl g__law_take P__law_take B__law_take (fun σ => passAt (takes_of rfl rfl rfl rfl) σ) (pa_cons (pv 0) (pa_cons pe_int pa_nil))) pe_int) pa_nil)))) (pss_cons (ps_set (i := 5) sc.nd rfl loc (pe_callS F__law_take (hr.mono (by decide)) rfl g__law_take P__law_take B__law_take (fun σ => passAt (takes_of rfl rfl rfl rfl) σ) (pa_cons (pv 0) (pa_cons pe_int pa_nil)))) (pss_cons (ps_set (i := 6) sc.nd rfl loc (pe_me (pv 1) in_Numbers.cl mt_Numbers_changed F_Numbers_changed (hr.mono (by decide)) B_Numbers_changed .nil (fun σ => passAt (takes_of rfl rfl rfl rfl) σ) (pa_cons (pv 5) (pa_cons (pv 4) pa_nil)))) (pss_cons (ps_if (PW.pt (pw_or (pt_cmpR (op_neS hr.units) (pe_subO (pv 6) (pv 5) it_Numbers.1 it_Numbers.2.1 it_Numbers.2.2 F_Numbers___getitem__ (hr.mono (by decide)) B_Numbers___getitem__ (fun σ => passAt (takes_of rfl rfl rfl rfl) σ)) (pv 4) (nomark _)) (pw_or1 (pt_cmpR (op_ownne eq_Numbers F_Numbers___eq__ (hr.mono (by decide)) B_Numbers___eq__ fun _ => passF) (pe_me (pv 6) in_Numbers.cl mt_Numbers_changed F_Numbers_changed (hr.mono (by decide)) B_Numbers_changed .nil (fun σ => passAt (takes_of rfl rfl rfl rfl) σ) (pa_cons (pv 5) (pa_cons (pe_subO (pv 1) (pv 5) it_Numbers.1 it_Numbers.2.1 it_Numbers.2.2 F_Numbers___getitem__ (hr.mono (by decide)) B_Numbers___getitem__ (fun σ => passAt (takes_of rfl rfl rfl rfl) σ)) pa_nil))) (pv 1) (nomark _))))) (pss_cons (ps_ret pe_bl) pss_nil) pss_nil) (pss_cons (ps_if (pt_cmpR (op_neS hr.units) (pe_cmpR (op_owneq eq_Numbers F_Numbers___eq__ (hr.mono (by decide)) B_Numbers___eq__ fun _ => passF) (pv 6) (pv 1) (nomark _)) (pe_cmpR (op_eqS hr.units) (pv 4) (pe_callS F__law_at (hr.mono (by decide)) rfl g__law_at P__law_at B__law_at (fun σ => passAt (takes_of rfl rfl rfl rfl) σ) (pa_cons (pv 2) (pa_cons (pv 3) (pa_cons (pv 5) pa_nil)))) (nomark _)) (nomark _)) (pss_cons (ps_ret pe_bl) pss_nil) pss_nil) (pss_cons (ps_set (i := 7) sc.nd rfl loc (pe_me (pv 1) in_Numbers.cl mt_Numbers_raised F_Numbers_raised (hr.mono (by decide)) B_Numbers_raised.1 .nil (fun σ => passAt (takes_of rfl rfl rfl rfl) σ) (pa_cons (pv 5) (pa_cons (pv 4) pa_nil)))) (pss_cons (ps_if (PW.pt (pw_or (pt_not (pt_val (pe_callS F__law_same_from (hr.mono (by decide)) rfl g__law_same_from P__law_same_from B__law_same_from (fun σ => passAt (takes_of rfl rfl rfl rfl) σ) (pa_cons (pv 7) (pa_cons (pv 1) (pa_cons pe_int (pa_cons (pv 5) pa_nil))))))) (pw_or1 (pt_cmpR (op_ownne eq_Numbers F_Numbers___eq__ (hr.mono (by decide)) B_Numbers___eq__ fun _ => passF) (pe_me (pv 7) in_Numbers.cl mt_Numbers_moved F_Numbers_moved (hr.mono (by decide)) B_Numbers_moved .nil (fun σ => passAt (takes_of rfl rfl rfl rfl) σ) (pa_cons (pv 5) pa_nil)) (pv 1) (nomark _))))) (pss_cons (ps_ret pe_bl) pss_nil) pss_nil) (pss_cons (ps_for (passes_of rfl) rfl (pi_range1 rfl g_range (pa_cons (pv 5) pa_nil)) (pg_name sc.nd (i := 8) rfl loc) (pss_cons (ps_if (pt_cmpR (op_neS hr.units) (pe_subO (pv 7) (pv 8) it_Numbers.1 it_Numbers.2.1 it_Numbers.2.2 F_Numbers___getitem__ (hr.mono (by decide)) B_Numbers___getitem__ (fun σ => passAt (takes_of rfl rfl rfl rfl) σ)) (pv 4) (nomark _)) (pss_cons (ps_ret pe_bl) pss_nil) pss_nil) pss_nil)) (pss_cons (ps_set (i := 9) sc.nd rfl loc (pe_and (pe_cmpR op_ge (pe_ix ix_seq (pv 3) pe_int (fun _ _ => rfl)) pe_int (nomark _)) (pe_one (pe_cmpR (op_eqS hr.units) (pe_callB call_len rfl g_len b_len (pa_cons (pe_lc (own := [("_law_one", 13)]) rfl sc.nd (pi_seq (pi_list (pv 2)) (pi_tup (pv 2)) (pi_str (pv 2))) (show BlkOk ["_law_draws_here", "_law_numbers", "_law_pairs", "_law_tail", "_law_pair", "_law_many", "_law_changed", "_law_raised", "_law_k", "_law_positive", "_law_plain", "_law_falling", "_law_n", "_law_one"] (defScope (top 40)) _ [("_law_one", 13)] from ⟨rfl, by decide +kernel, by decide +kernel, by decide +kernel, by decide +kernel⟩) (fun s H C cl fp => (pg_name sc.nd (i := 13) rfl loc)) (fun s H C cl fp => (pts_one (pt_cmpR op_lt (pe_ix ix_seq (pv 13) pe_int (fun _ _ => rfl)) pe_int (nomark _)))) (fun s H C cl fp => (pv 13))) pa_nil)) pe_int (nomark _))))) (pss_cons (ps_set (i := 10) sc.nd rfl loc (pe_and (pe_cmpR (op_eqS hr.units) (pe_ix ix_seq (pv 3) pe_int (fun _ _ => rfl)) pe_int (nomark _)) (pe_one (pe_cmpR (op_eqS hr.units) (pe_callB call_len rfl g_len b_len (pa_cons (pe_lc (own := [("_law_one", 13)]) rfl sc.nd (pi_seq (pi_list (pv 2)) (pi_tup (pv 2)) (pi_str (pv 2))) (show BlkOk ["_law_draws_here", "_law_numbers", "_law_pairs", "_law_tail", "_law_pair", "_law_many", "_law_changed", "_law_raised", "_law_k", "_law_positive", "_law_plain", "_law_falling", "_law_n", "_law_one"] (defScope (top 40)) _ [("_law_one", 13)] from ⟨rfl, by decide +kernel, by decide +kernel, by decide +kernel, by decide +kernel⟩) (fun s H C cl fp => (pg_name sc.nd (i := 13) rfl loc)) (fun s H C cl fp => (pts_one (pt_cmpR (op_neS hr.units) (pe_ix ix_seq (pv 13) pe_int (fun _ _ => rfl)) pe_int (nomark _)))) (fun s H C cl fp => (pv 13))) pa_nil)) pe_int (nomark _))))) (pss_cons (ps_if (PW.pt (pw_or (pt_cmpR (op_neS hr.units) (pe_prop (pv 1) in_Numbers.cl p_Numbers_is_positive F_Numbers_is_positive (hr.mono (by decide)) B_Numbers_is_positive .nil passL rfl) (pv 9) (nomark _)) (pw_or1 (pt_cmpR (op_neS hr.units) (pe_prop (pv 1) in_Numbers.cl p_Numbers_is_plain F_Numbers_is_plain (hr.mono (by decide)) B_Numbers_is_plain .nil passL rfl) (pv 10) (nomark _))))) (pss_cons (ps_ret pe_bl) pss_nil) pss_nil) (pss_cons (ps_if (pt_cmpR (op_ownne eq_Numbers F_Numbers___eq__ (hr.mono (by decide)) B_Numbers___eq__ fun _ => passF) (pe_cmS (pe_cls rfl g_Numbers) cr_Numbers cm_Numbers_steady F_Numbers_steady (hr.mono (by decide)) B_Numbers_steady (fun σ => passAt (takes_of rfl rfl rfl rfl) σ) (pa_cons (pe_ix ix_seq (pv 4) pe_int (fun _ _ => rfl)) (pa_cons (pe_ix ix_seq (pv 4) pe_int (fun _ _ => rfl)) pa_nil))) (pe_mkS mk_Numbers F_Numbers___init__ (hr.mono (by decide)) rfl g_Numbers K_Numbers___init__ (fun σ => passAt (takes_of rfl rfl rfl rfl) σ) (pa_cons (pe_lst (pa_cons (pv 4) (pa_cons (pv 4) pa_nil))) pa_nil) (pk_cons (pv 4) pk_nil)) (nomark _)) (pss_cons (ps_ret pe_bl) pss_nil) pss_nil) (pss_cons (ps_set (i := 11) sc.nd rfl loc (pe_cmS (pe_cls rfl g_Numbers) cr_Numbers cm_Numbers_falling F_Numbers_falling (hr.mono (by decide)) B_Numbers_falling (fun σ => passAt (takes_of rfl rfl rfl rfl) σ) (pa_cons (pv 5) pa_nil))) (pss_cons (ps_ret (pe_cmpR (op_owneq eq_Numbers F_Numbers___eq__ (hr.mono (by decide)) B_Numbers___eq__ fun _ => passF) (pv 11) (pe_mkS mk_Numbers F_Numbers___init__ (hr.mono (by decide)) rfl g_Numbers K_Numbers___init__ (fun σ => passAt (takes_of rfl rfl rfl rfl) σ) (pa_cons (pe_lc (own := [("_law_n", 12)]) rfl sc.nd (pi_range1 rfl g_range (pa_cons (pe_op op_plus (pv 5) pe_int) pa_nil)) (show BlkOk ["_law_draws_here", "_law_numbers", "_law_pairs", "_law_tail", "_law_pair", "_law_many", "_law_changed", "_law_raised", "_law_k", "_law_positive", "_law_plain", "_law_falling", "_law_n", "_law_one"] (defScope (top 40)) _ [("_law_n", 12)] from ⟨rfl, by decide +kernel, by decide +kernel, by decide +kernel, by decide +kernel⟩) (fun s H C cl fp => (pg_name sc.nd (i := 12) rfl loc)) (fun s H C cl fp => pts_nil) (fun s H C cl fp => (pe_tup (pa_cons pe_int (pa_cons (pe_op op_sub (pv 5) (pe_op op_times pe_int (pv 12))) pa_nil))))) pa_nil) (pk_cons (pe_tup (pa_cons pe_int (pa_cons (pe_op op_sub (pe_un un_neg (pv 5)) pe_int) pa_nil))) pk_nil)) (nomark _))) pss_nil)))))))))))))),
    (ss_seq (ss_set 4 (se_tup (sa_cons (se_call (sa_cons (se_var 0) (sa_cons (se_c fun _ => RD.int _) sa_nil))) (sa_cons (se_op (o_sub) (se_call (sa_cons (se_var 0) (sa_cons (se_c fun _ => RD.int _) sa_nil))) (se_c fun _ => RD.int _)) sa_nil)))) (ss_seq (ss_set 5 (se_call (sa_cons (se_var 0) (sa_cons (se_c fun _ => RD.int _) sa_nil)))) (ss_seq (ss_set 6 (se_me (fun _ => .nil) (se_var 1) (sa_cons (se_var 5) (sa_cons (se_var 4) sa_nil)))) (ss_seq (ss_if (st_or (st_v (se_op (o_ne) (se_subO (se_var 6) (se_var 5)) (se_var 4))) (st_v (se_op (o_owneq nf_Numbers) (se_me (fun _ => .nil) (se_var 6) (sa_cons (se_var 5) (sa_cons (se_subO (se_var 1) (se_var 5)) sa_nil))) (se_var 1)))) (ss_seq (ss_ret (se_c fun _ => RD.bl _)) ss_next) ss_next) (ss_seq (ss_if (st_v (se_op (o_ne) (se_op (o_owneq nf_Numbers) (se_var 6) (se_var 1)) (se_op (o_eq) (se_var 4) (se_call (sa_cons (se_var 2) (sa_cons (se_var 3) (sa_cons (se_var 5) sa_nil))))))) (ss_seq (ss_ret (se_c fun _ => RD.bl _)) ss_next) ss_next) (ss_seq (ss_set 7 (se_me (fun _ => .nil) (se_var 1) (sa_cons (se_var 5) (sa_cons (se_var 4) sa_nil)))) (ss_seq (ss_if (st_or (st_not (st_v (se_call (sa_cons (se_var 7) (sa_cons (se_var 1) (sa_cons (se_c fun _ => RD.int _) (sa_cons (se_var 5) sa_nil))))))) (st_v (se_op (o_owneq nf_Numbers) (se_me (fun _ => .nil) (se_var 7) (sa_cons (se_var 5) sa_nil)) (se_var 1)))) (ss_seq (ss_ret (se_c fun _ => RD.bl _)) ss_next) ss_next) (ss_seq (ss_for (si_rng1 (sa_cons (se_var 5) sa_nil)) (stk_one (sg_name 8)) (ss_seq (ss_if (st_v (se_op (o_ne) (se_subO (se_var 7) (se_var 8)) (se_var 4))) (ss_seq (ss_ret (se_c fun _ => RD.bl _)) ss_next) ss_next) ss_next)) (ss_seq (ss_set 9 (se_and (se_op (o_cmp _) (se_op o_ix (se_var 3) (se_c fun _ => RD.int _)) (se_c fun _ => RD.int _)) (se_op (o_eq) (se_cb oc_len (sa_cons (se_lc (w' := noX) false (si_seq (se_var 2)) (stk_one (sg_name 13)) (gw_name (by decide)) (st_v (se_op (o_cmp _) (se_op o_ix (se_var 13) (se_c fun _ => RD.int _)) (se_c fun _ => RD.int _))) (se_var 13)) sa_nil)) (se_c fun _ => RD.int _)))) (ss_seq (ss_set 10 (se_and (se_op (o_eq) (se_op o_ix (se_var 3) (se_c fun _ => RD.int _)) (se_c fun _ => RD.int _)) (se_op (o_eq) (se_cb oc_len (sa_cons (se_lc (w' := noX) false (si_seq (se_var 2)) (stk_one (sg_name 13)) (gw_name (by decide)) (st_v (se_op (o_ne) (se_op o_ix (se_var 13) (se_c fun _ => RD.int _)) (se_c fun _ => RD.int _))) (se_var 13)) sa_nil)) (se_c fun _ => RD.int _)))) (ss_seq (ss_if (st_or (st_v (se_op (o_ne) (se_prop (se_var 1)) (se_var 9))) (st_v (se_op (o_ne) (se_prop (se_var 1)) (se_var 10)))) (ss_seq (ss_ret (se_c fun _ => RD.bl _)) ss_next) ss_next) (ss_seq (ss_if (st_v (se_op (o_owneq nf_Numbers) (se_cmS (sa_cons (se_op o_ix (se_var 4) (se_c fun _ => RD.int _)) (sa_cons (se_op o_ix (se_var 4) (se_c fun _ => RD.int _)) sa_nil))) (se_mk put1 (sa_cons (se_lst false (sa_cons (se_var 4) (sa_cons (se_var 4) sa_nil))) sa_nil) (sa_cons (se_var 4) sa_nil)))) (ss_seq (ss_ret (se_c fun _ => RD.bl _)) ss_next) ss_next) (ss_seq (ss_set 11 (se_cmS (sa_cons (se_var 5) sa_nil))) (ss_seq (ss_ret (se_op (o_owneq nf_Numbers) (se_var 11) (se_mk put1 (sa_cons (se_lc (w' := noX) false (si_rng1 (sa_cons (se_op (o_add false) (se_var 5) (se_c fun _ => RD.int _)) sa_nil)) (stk_one (sg_name 12)) (gw_name (by decide)) etyes (se_tup (sa_cons (se_c fun _ => RD.int _) (sa_cons (se_op (o_sub) (se_var 5) (se_op (o_mul false) (se_c fun _ => RD.int _) (se_var 12))) sa_nil)))) sa_nil) (sa_cons (se_tup (sa_cons (se_c fun _ => RD.int _) (sa_cons (se_op (o_sub) (se_un o_neg (se_var 5)) (se_c fun _ => RD.int _)) sa_nil))) sa_nil)))) ss_next))))))))))))))⟩
def x__law_door : Es := (esSeq (esAsg (evLst false (eaCons (evC (.str (PySem.Str.ofString "none"))) eaNil)) (egName 3)) (esSeq (esTry (esSeq (esIf (etV (evBin (gEq) (evVar 1) (evC (.int 0)))) (esSeq (esAsg (evLst false (eaCons (evSubO "Numbers" r_Numbers___getitem__ (evVar 0) (evVar 2)) eaNil)) (egName 3)) esNext) (esSeq (esIf (etV (evBin (gEq) (evVar 1) (evC (.int 1)))) (esSeq (esAsg (evLst false (eaCons (evMe "Numbers" "val" r_Numbers_val [] (evVar 0) (eaCons (evVar 2) (eaCons (evUn gNeg (evC (.int 1))) (eaCons (evC (.str (PySem.Str.ofString "x"))) eaNil)))) eaNil)) (egName 3)) esNext) (esSeq (esIf (etV (evBin (gEq) (evVar 1) (evC (.int 2)))) (esSeq (esAsg (evLst false (eaCons (evMe "Numbers" "val" r_Numbers_val [] (evVar 0) (eaCons (evC (.int 2)) (eaCons (evVar 2) (eaCons (evC (.str (PySem.Str.ofString "x"))) eaNil)))) eaNil)) (egName 3)) esNext) (esSeq (esIf (etV (evBin (gEq) (evVar 1) (evC (.int 3)))) (esSeq (esAsg (evLst false (eaCons (evMe "Numbers" "changed" r_Numbers_changed [] (evVar 0) (eaCons (evVar 2) (eaCons (evTup (eaCons (evUn gNeg (evC (.int 1))) (eaCons (evC (.int 0)) eaNil))) eaNil))) eaNil)) (egName 3)) esNext) (esSeq (esIf (etV (evBin (gEq) (evVar 1) (evC (.int 4)))) (esSeq (esAsg (evLst false (eaCons (evMe "Numbers" "dead_pair" r_Numbers_dead_pair [] (evVar 0) (eaCons (evVar 2) eaNil)) (eaCons (evMe "Numbers" "lively_to" r_Numbers_lively_to [] (evVar 0) (eaCons (evC (.int 0)) eaNil)) eaNil))) (egName 3)) esNext) (esSeq (esIf (etV (evBin (gEq) (evVar 1) (evC (.int 5)))) (esSeq (esAsg (evLst false (eaCons (evMe "Numbers" "lively_to" r_Numbers_lively_to [] (evVar 0) (eaCons (evVar 2) eaNil)) eaNil)) (egName 3)) esNext) (esSeq (esIf (etV (evBin (gEq) (evVar 1) (evC (.int 6)))) (esSeq (esAsg (evLst false (eaCons (evCall r_last_alive (eaCons (evVar 0) (eaCons (evVar 2) (eaCons (evUn gNeg (evC (.int 1))) eaNil)))) eaNil)) (egName 3)) esNext) (esSeq (esIf (etV (evBin (gEq) (evVar 1) (evC (.int 7)))) (esSeq (esAsg (evLst false (eaCons (evCall r_first_not_above (eaCons (evVar 0) (eaCons (evVar 2) (eaCons (evUn gNeg (evC (.int 1))) eaNil)))) eaNil)) (egName 3)) esNext) (esSeq (esIf (etV (evBin (gEq) (evVar 1) (evC (.int 8)))) (esSeq (esAsg (evLst false (eaCons (evCall r_last_alive (eaCons (evVar 0) (eaCons (evC (.int 2)) (eaCons (evVar 2) eaNil)))) eaNil)) (egName 3)) esNext) (esSeq (esIf (etV (evBin (gEq) (evVar 1) (evC (.int 9)))) (esSeq (esAsg (evLst false (eaCons (evCall r_first_not_above (eaCons (evVar 0) (eaCons (evC (.int 2)) (eaCons (evVar 2) eaNil)))) eaNil)) (egName 3)) esNext) (esSeq (esIf (etV (evBin (gEq) (evVar 1) (evC (.int 10)))) (esSeq (esAsg (evLst false (eaCons (evMe "Numbers" "moved" r_Numbers_moved [] (evVar 0) (eaCons (evVar 2) eaNil)) eaNil)) (egName 3)) esNext) (esSeq (esIf (etV (evBin (gEq) (evVar 1) (evC (.int 11)))) (esSeq (esAsg (evLst false (eaCons (evMe "Numbers" "raised" r_Numbers_raised [] (evVar 0) (eaCons (evVar 2) (eaCons (evTup (eaCons (evUn gNeg (evC (.int 1))) (eaCons (evC (.int 0)) eaNil))) eaNil))) eaNil)) (egName 3)) esNext) (esSeq (esAsg (evLst false (eaCons (evCmS "Numbers" r_Numbers_falling (eaCons (evVar 2) eaNil)) eaNil)) (egName 3)) esNext)) esNext)) esNext)) esNext)) esNext)) esNext)) esNext)) esNext)) esNext)) esNext)) esNext)) esNext)) esNext) (⟨E_BadRank, 4, fun c fs => esSeq (esAsg (evLst false (eaCons (evC (.str (PySem.Str.ofString "rank"))) (eaCons (evXf fs "rank") eaNil))) (egName 3)) esNext⟩ :: (⟨E_BadNumber, 4, fun c fs => esSeq (esAsg (evLst false (eaCons (evC (.str (PySem.Str.ofString "number"))) (eaCons (evXf fs "name") eaNil))) (egName 3)) esNext⟩ :: []))) (esSeq (esRet (evVar 3)) esNext)))
abbrev r__law_door : G.Run := runF 3 5 x__law_door
theorem sc__law_door : FnScope ["_law_numbers", "_law_call", "_law_bad", "_law_told", "wrong"] ["_law_numbers", "_law_call", "_law_bad"] (defScope (top 41)) := ⟨rfl, rfl, rfl, by decide +kernel, rfl, by decide +kernel, by decide +kernel⟩
theorem ok__law_door (KB : K.In base) (GB : base.Ns mainGlobals mg) (c : Says ts fn K) : Def P w K mg base 9 (gAt "_law_door" K) ["_law_numbers", "_law_call", "_law_bad"] (spF K r__law_door) (All K ["_law_numbers", "_law_call", "_law_bad"]) := by
  obtain ⟨fd, F⟩ := c.def_ 48 (d := d__law_door) rfl
  obtain ⟨fd_Numbers___getitem__, F_Numbers___getitem__, B_Numbers___getitem__, P_Numbers___getitem__⟩ := (ok_Numbers___getitem__ (P := P) (w := w) KB GB c).ex
  have it_Numbers := itemB_ok (c.test 83 (t := itemB "Numbers") rfl)
  obtain ⟨fd_Numbers_val, F_Numbers_val, B_Numbers_val, P_Numbers_val⟩ := (ok_Numbers_val (P := P) (w := w) KB GB c).ex
  have in_Numbers := insB_ok (c.test 77 (t := insB "Numbers") rfl)
  have mt_Numbers_val := He.meth_ok (c.test 90 (t := (He.Fa.meth "Numbers" "val").ok) rfl)
  obtain ⟨fd_Numbers_changed, F_Numbers_changed, B_Numbers_changed, P_Numbers_changed⟩ := (ok_Numbers_changed (P := P) (w := w) KB GB c).ex
  have mt_Numbers_changed := He.meth_ok (c.test 91 (t := (He.Fa.meth "Numbers" "changed").ok) rfl)
  obtain ⟨fd_Numbers_dead_pair, F_Numbers_dead_pair, B_Numbers_dead_pair, P_Numbers_dead_pair⟩ := (ok_Numbers_dead_pair (P := P) (w := w) KB GB c).ex
  have mt_Numbers_dead_pair := He.meth_ok (c.test 94 (t := (He.Fa.meth "Numbers" "dead_pair").ok) rfl)
  obtain ⟨fd_Numbers_lively_to, F_Numbers_lively_to, B_Numbers_lively_to, P_Numbers_lively_to⟩ := (ok_Numbers_lively_to (P := P) (w := w) KB GB c).ex
  have mt_Numbers_lively_to := He.meth_ok (c.test 95 (t := (He.Fa.meth "Numbers" "lively_to").ok) rfl)
  obtain ⟨fd_last_alive, F_last_alive, B_last_alive, P_last_alive⟩ := (ok_last_alive (P := P) (w := w) KB GB c).ex
  have g_last_alive := He.glo_ok KB GB (c.test 21 (t := (He.Fa.glo "last_alive").ok) rfl)
  obtain ⟨fd_first_not_above, F_first_not_above, B_first_not_above, P_first_not_above⟩ := (ok_first_not_above (P := P) (w := w) KB GB c).ex
  have g_first_not_above := He.glo_ok KB GB (c.test 22 (t := (He.Fa.glo "first_not_above").ok) rfl)
  obtain ⟨fd_Numbers_moved, F_Numbers_moved, B_Numbers_moved, P_Numbers_moved⟩ := (ok_Numbers_moved (P := P) (w := w) KB GB c).ex
  have mt_Numbers_moved := He.meth_ok (c.test 92 (t := (He.Fa.meth "Numbers" "moved").ok) rfl)
  obtain ⟨fd_Numbers_raised, F_Numbers_raised, B_Numbers_raised, P_Numbers_raised⟩ := (ok_Numbers_raised (P := P) (w := w) KB GB c).ex
  have mt_Numbers_raised := He.meth_ok (c.test 93 (t := (He.Fa.meth "Numbers" "raised").ok) rfl)
  obtain ⟨fd_Numbers_falling, F_Numbers_falling, B_Numbers_falling, P_Numbers_falling⟩ := (ok_Numbers_falling (P := P) (w := w) KB GB c).ex
  have g_Numbers := He.glo_ok KB GB (c.test 20 (t := (He.Fa.glo "Numbers").ok) rfl)
  have cr_Numbers := creadB_ok (c.test 79 (t := creadB "Numbers") rfl)
  have cm_Numbers_falling := cmetB_ok (c.test 82 (t := cmetB "Numbers" "falling") rfl)
  have g_BadNumber := He.glo_ok KB GB (c.test 4 (t := (He.Fa.glo "BadNumber").ok) rfl)
  have ex_BadNumber := exmB_ok (c.test 106 (t := exmB E_BadNumber "BadNumber") rfl)
  have xi_BadNumber := xisB_ok (c.test 62 (t := xisB "BadNumber") rfl)
  have n_BadNumber_name := He.noat_ok (c.test 64 (t := (He.Fa.noat "BadNumber" "name").ok) rfl)
  have g_BadRank := He.glo_ok KB GB (c.test 5 (t := (He.Fa.glo "BadRank").ok) rfl)
  have ex_BadRank := exmB_ok (c.test 108 (t := exmB E_BadRank "BadRank") rfl)
  have xi_BadRank := xisB_ok (c.test 66 (t := xisB "BadRank") rfl)
  have n_BadRank_rank := He.noat_ok (c.test 68 (t := (He.Fa.noat "BadRank" "rank").ok) rfl)
  have sc := sc__law_door
  refine ⟨fd, fn_ok F sc 5 rfl fun cdv A outer s H E hr => ?_, F.bindsN fun _ _ _ _ _ _ us hl => match us, hl with | [_, _, _], _ => rfl, F.kp⟩
  exact ⟨_, (pss_cons (ps_set (i := 3) sc.nd rfl loc (pe_lst (pa_cons pe_str pa_nil))) (pss_cons (by refine ps_tryN (tb := fun W => (tSeq (tIfS (tTest (tOp (rEqS K) (tVar 1) (tC (.int 0)))) (tSeq (tAsg (tLst (tCons (tSubO (ca K "Numbers") (spF K r_Numbers___getitem__) (WE W) (tVar 0) (tVar 2)) tNil)) (gName 3)) tNext) (tSeq (tIfS (tTest (tOp (rEqS K) (tVar 1) (tC (.int 1)))) (tSeq (tAsg (tLst (tCons (tMe (ca K "Numbers") "val" (spF K r_Numbers_val) [] (WE W) (tVar 0) (tCons (tVar 2) (tCons (tUn (rU fun i => .int (-i)) (tC (.int 1))) (tCons (tC (.str (PySem.Str.ofString "x"))) tNil)))) tNil)) (gName 3)) tNext) (tSeq (tIfS (tTest (tOp (rEqS K) (tVar 1) (tC (.int 2)))) (tSeq (tAsg (tLst (tCons (tMe (ca K "Numbers") "val" (spF K r_Numbers_val) [] (WE W) (tVar 0) (tCons (tC (.int 2)) (tCons (tVar 2) (tCons (tC (.str (PySem.Str.ofString "x"))) tNil)))) tNil)) (gName 3)) tNext) (tSeq (tIfS (tTest (tOp (rEqS K) (tVar 1) (tC (.int 3)))) (tSeq (tAsg (tLst (tCons (tMe (ca K "Numbers") "changed" (spF K r_Numbers_changed) [] (WE W) (tVar 0) (tCons (tVar 2) (tCons (tTup (tCons (tUn (rU fun i => .int (-i)) (tC (.int 1))) (tCons (tC (.int 0)) tNil))) tNil))) tNil)) (gName 3)) tNext) (tSeq (tIfS (tTest (tOp (rEqS K) (tVar 1) (tC (.int 4)))) (tSeq (tAsg (tLst (tCons (tMe (ca K "Numbers") "dead_pair" (spF K r_Numbers_dead_pair) [] (WE W) (tVar 0) (tCons (tVar 2) tNil)) (tCons (tMe (ca K "Numbers") "lively_to" (spF K r_Numbers_lively_to) [] (WE W) (tVar 0) (tCons (tC (.int 0)) tNil)) tNil))) (gName 3)) tNext) (tSeq (tIfS (tTest (tOp (rEqS K) (tVar 1) (tC (.int 5)))) (tSeq (tAsg (tLst (tCons (tMe (ca K "Numbers") "lively_to" (spF K r_Numbers_lively_to) [] (WE W) (tVar 0) (tCons (tVar 2) tNil)) tNil)) (gName 3)) tNext) (tSeq (tIfS (tTest (tOp (rEqS K) (tVar 1) (tC (.int 6)))) (tSeq (tAsg (tLst (tCons (tCallS (spF K r_last_alive) (WE W) (tCons (tVar 0) (tCons (tVar 2) (tCons (tUn (rU fun i => .int (-i)) (tC (.int 1))) tNil)))) tNil)) (gName 3)) tNext) (tSeq (tIfS (tTest (tOp (rEqS K) (tVar 1) (tC (.int 7)))) (tSeq (tAsg (tLst (tCons (tCallS (spF K r_first_not_above) (WE W) (tCons (tVar 0) (tCons (tVar 2) (tCons (tUn (rU fun i => .int (-i)) (tC (.int 1))) tNil)))) tNil)) (gName 3)) tNext) (tSeq (tIfS (tTest (tOp (rEqS K) (tVar 1) (tC (.int 8)))) (tSeq (tAsg (tLst (tCons (tCallS (spF K r_last_alive) (WE W) (tCons (tVar 0) (tCons (tC (.int 2)) (tCons (tVar 2) tNil)))) tNil)) (gName 3)) tNext) (tSeq (tIfS (tTest (tOp (rEqS K) (tVar 1) (tC (.int 9)))) (tSeq (tAsg (tLst (tCons (tCallS (spF K r_first_not_above) (WE W) (tCons (tVar 0) (tCons (tC (.int 2)) (tCons (tVar 2) tNil)))) tNil)) (gName 3)) tNext) (tSeq (tIfS (tTest (tOp (rEqS K) (tVar 1) (tC (.int 10)))) (tSeq (tAsg (tLst (tCons (tMe (ca K "Numbers") "moved" (spF K r_Numbers_moved) [] (WE W) (tVar 0) (tCons (tVar 2) tNil)) tNil)) (gName 3)) tNext) (tSeq (tIfS (tTest (tOp (rEqS K) (tVar 1) (tC (.int 11)))) (tSeq (tAsg (tLst (tCons (tMe (ca K "Numbers") "raised" (spF K r_Numbers_raised) [] (WE W) (tVar 0) (tCons (tVar 2) (tCons (tTup (tCons (tUn (rU fun i => .int (-i)) (tC (.int 1))) (tCons (tC (.int 0)) tNil))) tNil))) tNil)) (gName 3)) tNext) (tSeq (tAsg (tLst (tCons (tCmS (ca K "Numbers") (spF K r_Numbers_falling) (WE W) (tC (.ref (ca K "Numbers"))) (tCons (tVar 2) tNil)) tNil)) (gName 3)) tNext)) tNext)) tNext)) tNext)) tNext)) tNext)) tNext)) tNext)) tNext)) tNext)) tNext)) tNext)) tNext)) rfl rfl sc.nd (takes_of rfl rfl rfl rfl) ?_ ?_; exact fun W pn xe tk po => (pss_cons (ps_if (pt_cmpR (op_eqS hr.units) (pv 1) pe_int (nomark _)) (pss_cons (ps_set (i := 3) sc.nd rfl loc (pe_lst (pa_cons (pe_subO (pv 0) (pv 2) it_Numbers.1 it_Numbers.2.1 it_Numbers.2.2 F_Numbers___getitem__ (hr.mono (by decide)) B_Numbers___getitem__ (fun σ => passAt tk σ)) pa_nil))) pss_nil) (pss_cons (ps_if (pt_cmpR (op_eqS hr.units) (pv 1) pe_int (nomark _)) (pss_cons (ps_set (i := 3) sc.nd rfl loc (pe_lst (pa_cons (pe_me (pv 0) in_Numbers.cl mt_Numbers_val F_Numbers_val (hr.mono (by decide)) B_Numbers_val .nil (fun σ => passAt tk σ) (pa_cons (pv 2) (pa_cons (pe_un un_neg pe_int) (pa_cons pe_str pa_nil)))) pa_nil))) pss_nil) (pss_cons (ps_if (pt_cmpR (op_eqS hr.units) (pv 1) pe_int (nomark _)) (pss_cons (ps_set (i := 3) sc.nd rfl loc (pe_lst (pa_cons (pe_me (pv 0) in_Numbers.cl mt_Numbers_val F_Numbers_val (hr.mono (by decide)) B_Numbers_val .nil (fun σ => passAt tk σ) (pa_cons pe_int (pa_cons (pv 2) (pa_cons pe_str pa_nil)))) pa_nil))) pss_nil) (pss_cons (ps_if (pt_cmpR (op_eqS hr.units) (pv 1) pe_int (nomark _)) (pss_cons (ps_set (i := 3) sc.nd rfl loc (pe_lst (pa_cons (pe_me (pv 0) in_Numbers.cl mt_Numbers_changed F_Numbers_changed (hr.mono (by decide)) B_Numbers_changed .nil (fun σ => passAt tk σ) (pa_cons (pv 2) (pa_cons (pe_tup (pa_cons (pe_un un_neg pe_int) (pa_cons pe_int pa_nil))) pa_nil))) pa_nil))) pss_nil) (pss_cons (ps_if (pt_cmpR (op_eqS hr.units) (pv 1) pe_int (nomark _)) (pss_cons (ps_set (i := 3) sc.nd rfl loc (pe_lst (pa_cons (pe_me (pv 0) in_Numbers.cl mt_Numbers_dead_pair F_Numbers_dead_pair (hr.mono (by decide)) B_Numbers_dead_pair .nil (fun σ => passAt tk σ) (pa_cons (pv 2) pa_nil)) (pa_cons (pe_me (pv 0) in_Numbers.cl mt_Numbers_lively_to F_Numbers_lively_to (hr.mono (by decide)) B_Numbers_lively_to .nil (fun σ => passAt tk σ) (pa_cons pe_int pa_nil)) pa_nil)))) pss_nil) (pss_cons (ps_if (pt_cmpR (op_eqS hr.units) (pv 1) pe_int (nomark _)) (pss_cons (ps_set (i := 3) sc.nd rfl loc (pe_lst (pa_cons (pe_me (pv 0) in_Numbers.cl mt_Numbers_lively_to F_Numbers_lively_to (hr.mono (by decide)) B_Numbers_lively_to .nil (fun σ => passAt tk σ) (pa_cons (pv 2) pa_nil)) pa_nil))) pss_nil) (pss_cons (ps_if (pt_cmpR (op_eqS hr.units) (pv 1) pe_int (nomark _)) (pss_cons (ps_set (i := 3) sc.nd rfl loc (pe_lst (pa_cons (pe_callS F_last_alive (hr.mono (by decide)) rfl g_last_alive P_last_alive B_last_alive (fun σ => passAt tk σ) (pa_cons (pv 0) (pa_cons (pv 2) (pa_cons (pe_un un_neg pe_int) pa_nil)))) pa_nil))) pss_nil) (pss_cons (ps_if (pt_cmpR (op_eqS hr.units) (pv 1) pe_int (nomark _)) (pss_cons (ps_set (i := 3) sc.nd rfl loc (pe_lst (pa_cons (pe_callS F_first_not_above (hr.mono (by decide)) rfl g_first_not_above P_first_not_above B_first_not_above (fun σ => passAt tk σ) (pa_cons (pv 0) (pa_cons (pv 2) (pa_cons (pe_un un_neg pe_int) pa_nil)))) pa_nil))) pss_nil) (pss_cons (ps_if (pt_cmpR (op_eqS hr.units) (pv 1) pe_int (nomark _)) (pss_cons (ps_set (i := 3) sc.nd rfl loc (pe_lst (pa_cons (pe_callS F_last_alive (hr.mono (by decide)) rfl g_last_alive P_last_alive B_last_alive (fun σ => passAt tk σ) (pa_cons (pv 0) (pa_cons pe_int (pa_cons (pv 2) pa_nil)))) pa_nil))) pss_nil) (pss_cons (ps_if (pt_cmpR (op_eqS hr.units) (pv 1) pe_int (nomark _)) (pss_cons (ps_set (i := 3) sc.nd rfl loc (pe_lst (pa_cons (pe_callS F_first_not_above (hr.mono (by decide)) rfl g_first_not_above P_first_not_above B_first_not_above (fun σ => passAt tk σ) (pa_cons (pv 0) (pa_cons pe_int (pa_cons (pv 2) pa_nil)))) pa_nil))) pss_nil) (pss_cons (ps_if (pt_cmpR (op_eqS hr.units) (pv 1) pe_int (nomark _)) (pss_cons (ps_set (i := 3) sc.nd rfl loc (pe_lst (pa_cons (pe_me (pv 0) in_Numbers.cl mt_Numbers_moved F_Numbers_moved (hr.mono (by decide)) B_Numbers_moved .nil (fun σ => passAt tk σ) (pa_cons (pv 2) pa_nil)) pa_nil))) pss_nil) (pss_cons (ps_if (pt_cmpR (op_eqS hr.units) (pv 1) pe_int (nomark _)) (pss_cons (ps_set (i := 3) sc.nd rfl loc (pe_lst (pa_cons (pe_me (pv 0) in_Numbers.cl mt_Numbers_raised F_Numbers_raised (hr.mono (by decide)) B_Numbers_raised.1 .nil (fun σ => passAt tk σ) (pa_cons (pv 2) (pa_cons (pe_tup (pa_cons (pe_un un_neg pe_int) (pa_cons pe_int pa_nil))) pa_nil))) pa_nil))) pss_nil) (pss_cons (ps_set (i := 3) sc.nd rfl loc (pe_lst (pa_cons (pe_cmS (pe_cls rfl g_Numbers) cr_Numbers cm_Numbers_falling F_Numbers_falling (hr.mono (by decide)) B_Numbers_falling (fun σ => passAt tk σ) (pa_cons (pv 2) pa_nil)) pa_nil))) pss_nil)) pss_nil)) pss_nil)) pss_nil)) pss_nil)) pss_nil)) pss_nil)) pss_nil)) pss_nil)) pss_nil)) pss_nil)) pss_nil)) pss_nil); exact (HdsN.cons (i := 4) (ts := (fun a cls d => tSeq (tAsg (tLst (tCons (tC (.str (PySem.Str.ofString "rank"))) (tCons (tXfs (List.map (ca K) ["BadRank"]) "rank" 4 a cls d) tNil))) (gName 3)) tNext)) rfl rfl ⟨rfl, by decide, Or.inl g_BadRank⟩ (fun a o cls d pn hz hf => pss_cons (ps_set (i := 3) sc.nd rfl loc (pe_lst (pa_cons pe_str (pa_cons (pe_xfs (Cs := List.map (ca K) ["BadRank"]) (xfs_cons xi_BadRank.2 n_BadRank_rank xfs_nil) hz hf (pv 4)) pa_nil)))) pss_nil) (HdsN.cons (i := 4) (ts := (fun a cls d => tSeq (tAsg (tLst (tCons (tC (.str (PySem.Str.ofString "number"))) (tCons (tXfs (List.map (ca K) ["BadNumber"]) "name" 4 a cls d) tNil))) (gName 3)) tNext)) rfl rfl ⟨rfl, by decide, Or.inl g_BadNumber⟩ (fun a o cls d pn hz hf => pss_cons (ps_set (i := 3) sc.nd rfl loc (pe_lst (pa_cons pe_str (pa_cons (pe_xfs (Cs := List.map (ca K) ["BadNumber"]) (xfs_cons xi_BadNumber.2 n_BadNumber_name xfs_nil) hz hf (pv 4)) pa_nil)))) pss_nil) .nil))) (pss_cons (ps_ret (pv 3)) pss_nil))),
    (ss_seq (ss_set 3 (se_lst false (sa_cons (se_c fun _ => RD.str _) sa_nil))) (ss_seq (ss_try (tb := fun W => (tSeq (tIfS (tTest (tOp (rEqS K) (tVar 1) (tC (.int 0)))) (tSeq (tAsg (tLst (tCons (tSubO (ca K "Numbers") (spF K r_Numbers___getitem__) (WE W) (tVar 0) (tVar 2)) tNil)) (gName 3)) tNext) (tSeq (tIfS (tTest (tOp (rEqS K) (tVar 1) (tC (.int 1)))) (tSeq (tAsg (tLst (tCons (tMe (ca K "Numbers") "val" (spF K r_Numbers_val) [] (WE W) (tVar 0) (tCons (tVar 2) (tCons (tUn (rU fun i => .int (-i)) (tC (.int 1))) (tCons (tC (.str (PySem.Str.ofString "x"))) tNil)))) tNil)) (gName 3)) tNext) (tSeq (tIfS (tTest (tOp (rEqS K) (tVar 1) (tC (.int 2)))) (tSeq (tAsg (tLst (tCons (tMe (ca K "Numbers") "val" (spF K r_Numbers_val) [] (WE W) (tVar 0) (tCons (tC (.int 2)) (tCons (tVar 2) (tCons (tC (.str (PySem.Str.ofString "x"))) tNil)))) tNil)) (gName 3)) tNext) (tSeq (tIfS (tTest (tOp (rEqS K) (tVar 1) (tC (.int 3)))) (tSeq (tAsg (tLst (tCons (tMe (ca K "Numbers") "changed" (spF K r_Numbers_changed) [] (WE W) (tVar 0) (tCons (tVar 2) (tCons (tTup (tCons (tUn (rU fun i => .int (-i)) (tC (.int 1))) (tCons (tC (.int 0)) tNil))) tNil))) tNil)) (gName 3)) tNext) (tSeq (tIfS (tTest (tOp (rEqS K) (tVar 1) (tC (.int 4)))) (tSeq (tAsg (tLst (tCons (tMe (ca K "Numbers") "dead_pair" (spF K r_Numbers_dead_pair) [] (WE W) (tVar 0) (tCons (tVar 2) tNil)) (tCons (tMe (ca K "Numbers") "lively_to" (spF K r_Numbers_lively_to) [] (WE W) (tVar 0) (tCons (tC (.int 0)) tNil)) tNil))) (gName 3)) tNext) (tSeq (tIfS (tTest (tOp (rEqS K) (tVar 1) (tC (.int 5)))) (tSeq (tAsg (tLst (tCons (tMe (ca K "Numbers") "lively_to" (spF K r_Numbers_lively_to) [] (WE W) (tVar 0) (tCons (tVar 2) tNil)) tNil)) (gName 3)) tNext) (tSeq (tIfS (tTest (tOp (rEqS K) (tVar 1) (tC (.int 6)))) (tSeq (tAsg (tLst (tCons (tCallS (spF K r_last_alive) (WE W) (tCons (tVar 0) (tCons (tVar 2) (tCons (tUn (rU fun i => .int (-i)) (tC (.int 1))) tNil)))) tNil)) (gName 3)) tNext) (tSeq (tIfS (tTest (tOp (rEqS K) (tVar 1) (tC (.int 7)))) (tSeq (tAsg (tLst (tCons (tCallS (spF K r_first_not_above) (WE W) (tCons (tVar 0) (tCons (tVar 2) (tCons (tUn (rU fun i => .int (-i)) (tC (.int 1))) tNil)))) tNil)) (gName 3)) tNext) (tSeq (tIfS (tTest (tOp (rEqS K) (tVar 1) (tC (.int 8)))) (tSeq (tAsg (tLst (tCons (tCallS (spF K r_last_alive) (WE W) (tCons (tVar 0) (tCons (tC (.int 2)) (tCons (tVar 2) tNil)))) tNil)) (gName 3)) tNext) (tSeq (tIfS (tTest (tOp (rEqS K) (tVar 1) (tC (.int 9)))) (tSeq (tAsg (tLst (tCons (tCallS (spF K r_first_not_above) (WE W) (tCons (tVar 0) (tCons (tC (.int 2)) (tCons (tVar 2) tNil)))) tNil)) (gName 3)) tNext) (tSeq (tIfS (tTest (tOp (rEqS K) (tVar 1) (tC (.int 10)))) (tSeq (tAsg (tLst (tCons (tMe (ca K "Numbers") "moved" (spF K r_Numbers_moved) [] (WE W) (tVar 0) (tCons (tVar 2) tNil)) tNil)) (gName 3)) tNext) (tSeq (tIfS (tTest (tOp (rEqS K) (tVar 1) (tC (.int 11)))) (tSeq (tAsg (tLst (tCons (tMe (ca K "Numbers") "raised" (spF K r_Numbers_raised) [] (WE W) (tVar 0) (tCons (tVar 2) (tCons (tTup (tCons (tUn (rU fun i => .int (-i)) (tC (.int 1))) (tCons (tC (.int 0)) tNil))) tNil))) tNil)) (gName 3)) tNext) (tSeq (tAsg (tLst (tCons (tCmS (ca K "Numbers") (spF K r_Numbers_falling) (WE W) (tC (.ref (ca K "Numbers"))) (tCons (tVar 2) tNil)) tNil)) (gName 3)) tNext)) tNext)) tNext)) tNext)) tNext)) tNext)) tNext)) tNext)) tNext)) tNext)) tNext)) tNext)) tNext)) (fun w => (ss_seq (ss_if (st_v (se_op (o_eq) (se_var 1) (se_c fun _ => RD.int _))) (ss_seq (ss_set 3 (se_lst false (sa_cons (se_subO (se_var 0) (se_var 2)) sa_nil))) ss_next) (ss_seq (ss_if (st_v (se_op (o_eq) (se_var 1) (se_c fun _ => RD.int _))) (ss_seq (ss_set 3 (se_lst false (sa_cons (se_me (fun _ => .nil) (se_var 0) (sa_cons (se_var 2) (sa_cons (se_un o_neg (se_c fun _ => RD.int _)) (sa_cons (se_c fun _ => RD.str _) sa_nil)))) sa_nil))) ss_next) (ss_seq (ss_if (st_v (se_op (o_eq) (se_var 1) (se_c fun _ => RD.int _))) (ss_seq (ss_set 3 (se_lst false (sa_cons (se_me (fun _ => .nil) (se_var 0) (sa_cons (se_c fun _ => RD.int _) (sa_cons (se_var 2) (sa_cons (se_c fun _ => RD.str _) sa_nil)))) sa_nil))) ss_next) (ss_seq (ss_if (st_v (se_op (o_eq) (se_var 1) (se_c fun _ => RD.int _))) (ss_seq (ss_set 3 (se_lst false (sa_cons (se_me (fun _ => .nil) (se_var 0) (sa_cons (se_var 2) (sa_cons (se_tup (sa_cons (se_un o_neg (se_c fun _ => RD.int _)) (sa_cons (se_c fun _ => RD.int _) sa_nil))) sa_nil))) sa_nil))) ss_next) (ss_seq (ss_if (st_v (se_op (o_eq) (se_var 1) (se_c fun _ => RD.int _))) (ss_seq (ss_set 3 (se_lst false (sa_cons (se_me (fun _ => .nil) (se_var 0) (sa_cons (se_var 2) sa_nil)) (sa_cons (se_me (fun _ => .nil) (se_var 0) (sa_cons (se_c fun _ => RD.int _) sa_nil)) sa_nil)))) ss_next) (ss_seq (ss_if (st_v (se_op (o_eq) (se_var 1) (se_c fun _ => RD.int _))) (ss_seq (ss_set 3 (se_lst false (sa_cons (se_me (fun _ => .nil) (se_var 0) (sa_cons (se_var 2) sa_nil)) sa_nil))) ss_next) (ss_seq (ss_if (st_v (se_op (o_eq) (se_var 1) (se_c fun _ => RD.int _))) (ss_seq (ss_set 3 (se_lst false (sa_cons (se_call (sa_cons (se_var 0) (sa_cons (se_var 2) (sa_cons (se_un o_neg (se_c fun _ => RD.int _)) sa_nil)))) sa_nil))) ss_next) (ss_seq (ss_if (st_v (se_op (o_eq) (se_var 1) (se_c fun _ => RD.int _))) (ss_seq (ss_set 3 (se_lst false (sa_cons (se_call (sa_cons (se_var 0) (sa_cons (se_var 2) (sa_cons (se_un o_neg (se_c fun _ => RD.int _)) sa_nil)))) sa_nil))) ss_next) (ss_seq (ss_if (st_v (se_op (o_eq) (se_var 1) (se_c fun _ => RD.int _))) (ss_seq (ss_set 3 (se_lst false (sa_cons (se_call (sa_cons (se_var 0) (sa_cons (se_c fun _ => RD.int _) (sa_cons (se_var 2) sa_nil)))) sa_nil))) ss_next) (ss_seq (ss_if (st_v (se_op (o_eq) (se_var 1) (se_c fun _ => RD.int _))) (ss_seq (ss_set 3 (se_lst false (sa_cons (se_call (sa_cons (se_var 0) (sa_cons (se_c fun _ => RD.int _) (sa_cons (se_var 2) sa_nil)))) sa_nil))) ss_next) (ss_seq (ss_if (st_v (se_op (o_eq) (se_var 1) (se_c fun _ => RD.int _))) (ss_seq (ss_set 3 (se_lst false (sa_cons (se_me (fun _ => .nil) (se_var 0) (sa_cons (se_var 2) sa_nil)) sa_nil))) ss_next) (ss_seq (ss_if (st_v (se_op (o_eq) (se_var 1) (se_c fun _ => RD.int _))) (ss_seq (ss_set 3 (se_lst false (sa_cons (se_me (fun _ => .nil) (se_var 0) (sa_cons (se_var 2) (sa_cons (se_tup (sa_cons (se_un o_neg (se_c fun _ => RD.int _)) (sa_cons (se_c fun _ => RD.int _) sa_nil))) sa_nil))) sa_nil))) ss_next) (ss_seq (ss_set 3 (se_lst false (sa_cons (se_cmS (sa_cons (se_var 2) sa_nil)) sa_nil))) ss_next)) ss_next)) ss_next)) ss_next)) ss_next)) ss_next)) ss_next)) ss_next)) ss_next)) ss_next)) ss_next)) ss_next)) ss_next)) (HdRel.cons (h := ⟨E_BadRank, 4, fun c fs => esSeq (esAsg (evLst false (eaCons (evC (.str (PySem.Str.ofString "rank"))) (eaCons (evXf fs "rank") eaNil))) (egName 3)) esNext⟩) (cs := ["BadRank"]) ex_BadRank (tc_of (by decide +kernel)) (sh_seq (sh_asg fun a d c fs hc => (se_lst false (sa_cons (se_c fun _ => RD.str _) (sa_cons (se_xf hc) sa_nil)))) ss_next) (HdRel.cons (h := ⟨E_BadNumber, 4, fun c fs => esSeq (esAsg (evLst false (eaCons (evC (.str (PySem.Str.ofString "number"))) (eaCons (evXf fs "name") eaNil))) (egName 3)) esNext⟩) (cs := ["BadNumber"]) ex_BadNumber (tc_of (by decide +kernel)) (sh_seq (sh_asg fun a d c fs hc => (se_lst false (sa_cons (se_c fun _ => RD.str _) (sa_cons (se_xf hc) sa_nil)))) ss_next) .nil))) (ss_seq (ss_ret (se_var 3)) ss_next)))⟩
def x__law_pair_refused : Es := (esSeq (esAsg (evC .non) (egName 2)) (esSeq (esTry (esSeq (esIf (etV (evBin (gEq) (evVar 1) (evC (.int 0)))) (esSeq (esDrop (evMe "Numbers" "changed" r_Numbers_changed [] (evVar 0) (eaCons (evC (.int 3)) (eaCons (evTup (eaCons (evC (.int 1)) (eaCons (evC (.int 2)) (eaCons (evC (.int 3)) eaNil)))) eaNil)))) esNext) (esSeq (esIf (etV (evBin (gEq) (evVar 1) (evC (.int 1)))) (esSeq (esDrop (evMe "Numbers" "raised" r_Numbers_raised [] (evVar 0) (eaCons (evC (.int 2)) (eaCons (evTup (eaCons (evUn gNeg (evC (.int 1))) (eaCons (evC (.int 0)) eaNil))) eaNil)))) esNext) (esSeq (esIf (etV (evBin (gEq) (evVar 1) (evC (.int 2)))) (esSeq (esDrop (evMe "Numbers" "raised" r_Numbers_raised [] (evVar 0) (eaCons (evC (.int 0)) (eaCons (evC .non) eaNil)))) esNext) (esSeq (esIf (etV (evBin (gEq) (evVar 1) (evC (.int 3)))) (esSeq (esDrop (evCmS "Numbers" r_Numbers_steady (eaCons (evUn gNeg (evC (.int 1))) (eaCons (evC (.int 0)) eaNil)))) esNext) (esSeq (esIf (etV (evBin (gEq) (evVar 1) (evC (.int 4)))) (esSeq (esDrop (evCmS "Numbers" r_Numbers_steady (eaCons (evC (.int 1)) (eaCons (evC .non) eaNil)))) esNext) (esSeq (esDrop (evMe "Numbers" "val" r_Numbers_val [] (evVar 0) (eaCons (evC (.int 0)) (eaCons (evC (.int 1)) (eaCons (evC (.str (PySem.Str.ofString "udx"))) eaNil))))) esNext)) esNext)) esNext)) esNext)) esNext)) esNext) (⟨E_BadNumbers, 3, fun c fs => esSeq (esAsg (evXf fs "at") (egName 2)) esNext⟩ :: (⟨E_BadWord, 4, fun c fs => esSeq (esAsg (evLst false (eaCons (evC (.str (PySem.Str.ofString "word"))) (eaCons (evXf fs "at") eaNil))) (egName 2)) esNext⟩ :: []))) (esSeq (esRet (evVar 2)) esNext)))
abbrev r__law_pair_refused : G.Run := runF 2 5 x__law_pair_refused
theorem sc__law_pair_refused : FnScope ["_law_numbers", "_law_call", "_law_told", "wrong", "odd"] ["_law_numbers", "_law_call"] (defScope (top 42)) := ⟨rfl, rfl, rfl, by decide +kernel, rfl, by decide +kernel, by decide +kernel⟩
theorem ok__law_pair_refused (KB : K.In base) (GB : base.Ns mainGlobals mg) (c : Says ts fn K) : Def P w K mg base 9 (gAt "_law_pair_refused" K) ["_law_numbers", "_law_call"] (spF K r__law_pair_refused) (All K ["_law_numbers", "_law_call"]) := by
  obtain ⟨fd, F⟩ := c.def_ 49 (d := d__law_pair_refused) rfl
  obtain ⟨fd_Numbers_changed, F_Numbers_changed, B_Numbers_changed, P_Numbers_changed⟩ := (ok_Numbers_changed (P := P) (w := w) KB GB c).ex
  have in_Numbers := insB_ok (c.test 77 (t := insB "Numbers") rfl)
  have mt_Numbers_changed := He.meth_ok (c.test 91 (t := (He.Fa.meth "Numbers" "changed").ok) rfl)
  obtain ⟨fd_Numbers_raised, F_Numbers_raised, B_Numbers_raised, P_Numbers_raised⟩ := (ok_Numbers_raised (P := P) (w := w) KB GB c).ex
  have mt_Numbers_raised := He.meth_ok (c.test 93 (t := (He.Fa.meth "Numbers" "raised").ok) rfl)
  obtain ⟨fd_Numbers_steady, F_Numbers_steady, B_Numbers_steady, P_Numbers_steady⟩ := (ok_Numbers_steady (P := P) (w := w) KB GB c).ex
  have g_Numbers := He.glo_ok KB GB (c.test 20 (t := (He.Fa.glo "Numbers").ok) rfl)
  have cr_Numbers := creadB_ok (c.test 79 (t := creadB "Numbers") rfl)
  have cm_Numbers_steady := cmetB_ok (c.test 80 (t := cmetB "Numbers" "steady") rfl)
  obtain ⟨fd_Numbers_val, F_Numbers_val, B_Numbers_val, P_Numbers_val⟩ := (ok_Numbers_val (P := P) (w := w) KB GB c).ex
  have mt_Numbers_val := He.meth_ok (c.test 90 (t := (He.Fa.meth "Numbers" "val").ok) rfl)
  have g_BadWord := He.glo_ok KB GB (c.test 6 (t := (He.Fa.glo "BadWord").ok) rfl)
  have ex_BadWord := exmB_ok (c.test 109 (t := exmB E_BadWord "BadWord") rfl)
  have xi_BadWord := xisB_ok (c.test 70 (t := xisB "BadWord") rfl)
  have n_BadWord_at := He.noat_ok (c.test 72 (t := (He.Fa.noat "BadWord" "at").ok) rfl)
  have g_BadNumbers := He.glo_ok KB GB (c.test 7 (t := (He.Fa.glo "BadNumbers").ok) rfl)
  have ex_BadNumbers := exmB_ok (c.test 107 (t := exmB E_BadNumbers "BadNumbers") rfl)
  have xi_BadNumbers := xisB_ok (c.test 74 (t := xisB "BadNumbers") rfl)
  have n_BadNumbers_at := He.noat_ok (c.test 76 (t := (He.Fa.noat "BadNumbers" "at").ok) rfl)
  have sc := sc__law_pair_refused
  refine ⟨fd, fn_ok F sc 5 rfl fun cdv A outer s H E hr => ?_, F.bindsN fun _ _ _ _ _ _ us hl => match us, hl with | [_, _], _ => rfl, F.kp⟩
  exact ⟨_, (pss_cons (ps_set (i := 2) sc.nd rfl loc pe_non) (pss_cons (by refine ps_tryN (tb := fun W => (tSeq (tIfS (tTest (tOp (rEqS K) (tVar 1) (tC (.int 0)))) (tSeq (tDrop (tMe (ca K "Numbers") "changed" (spF K r_Numbers_changed) [] (WE W) (tVar 0) (tCons (tC (.int 3)) (tCons (tTup (tCons (tC (.int 1)) (tCons (tC (.int 2)) (tCons (tC (.int 3)) tNil)))) tNil)))) tNext) (tSeq (tIfS (tTest (tOp (rEqS K) (tVar 1) (tC (.int 1)))) (tSeq (tDrop (tMe (ca K "Numbers") "raised" (spF K r_Numbers_raised) [] (WE W) (tVar 0) (tCons (tC (.int 2)) (tCons (tTup (tCons (tUn (rU fun i => .int (-i)) (tC (.int 1))) (tCons (tC (.int 0)) tNil))) tNil)))) tNext) (tSeq (tIfS (tTest (tOp (rEqS K) (tVar 1) (tC (.int 2)))) (tSeq (tDrop (tMe (ca K "Numbers") "raised" (spF K r_Numbers_raised) [] (WE W) (tVar 0) (tCons (tC (.int 0)) (tCons (tC .non) tNil)))) tNext) (tSeq (tIfS (tTest (tOp (rEqS K) (tVar 1) (tC (.int 3)))) (tSeq (tDrop (tCmS (ca K "Numbers") (spF K r_Numbers_steady) (WE W) (tC (.ref (ca K "Numbers"))) (tCons (tUn (rU fun i => .int (-i)) (tC (.int 1))) (tCons (tC (.int 0)) tNil)))) tNext) (tSeq (tIfS (tTest (tOp (rEqS K) (tVar 1) (tC (.int 4)))) (tSeq (tDrop (tCmS (ca K "Numbers") (spF K r_Numbers_steady) (WE W) (tC (.ref (ca K "Numbers"))) (tCons (tC (.int 1)) (tCons (tC .non) tNil)))) tNext) (tSeq (tDrop (tMe (ca K "Numbers") "val" (spF K r_Numbers_val) [] (WE W) (tVar 0) (tCons (tC (.int 0)) (tCons (tC (.int 1)) (tCons (tC (.str (PySem.Str.ofString "udx"))) tNil))))) tNext)) tNext)) tNext)) tNext)) tNext)) tNext)) rfl rfl sc.nd (takes_of rfl rfl rfl rfl) ?_ ?_; exact fun W pn xe tk po => (pss_cons (ps_if (pt_cmpR (op_eqS hr.units) (pv 1) pe_int (nomark _)) (pss_cons (ps_expr (pe_me (pv 0) in_Numbers.cl mt_Numbers_changed F_Numbers_changed (hr.mono (by decide)) B_Numbers_changed .nil (fun σ => passAt tk σ) (pa_cons pe_int (pa_cons (pe_tup (pa_cons pe_int (pa_cons pe_int (pa_cons pe_int pa_nil)))) pa_nil)))) pss_nil) (pss_cons (ps_if (pt_cmpR (op_eqS hr.units) (pv 1) pe_int (nomark _)) (pss_cons (ps_expr (pe_me (pv 0) in_Numbers.cl mt_Numbers_raised F_Numbers_raised (hr.mono (by decide)) B_Numbers_raised.1 .nil (fun σ => passAt tk σ) (pa_cons pe_int (pa_cons (pe_tup (pa_cons (pe_un un_neg pe_int) (pa_cons pe_int pa_nil))) pa_nil)))) pss_nil) (pss_cons (ps_if (pt_cmpR (op_eqS hr.units) (pv 1) pe_int (nomark _)) (pss_cons (ps_expr (pe_me (pv 0) in_Numbers.cl mt_Numbers_raised F_Numbers_raised (hr.mono (by decide)) B_Numbers_raised.1 .nil (fun σ => passAt tk σ) (pa_cons pe_int (pa_cons pe_non pa_nil)))) pss_nil) (pss_cons (ps_if (pt_cmpR (op_eqS hr.units) (pv 1) pe_int (nomark _)) (pss_cons (ps_expr (pe_cmS (pe_cls rfl g_Numbers) cr_Numbers cm_Numbers_steady F_Numbers_steady (hr.mono (by decide)) B_Numbers_steady (fun σ => passAt tk σ) (pa_cons (pe_un un_neg pe_int) (pa_cons pe_int pa_nil)))) pss_nil) (pss_cons (ps_if (pt_cmpR (op_eqS hr.units) (pv 1) pe_int (nomark _)) (pss_cons (ps_expr (pe_cmS (pe_cls rfl g_Numbers) cr_Numbers cm_Numbers_steady F_Numbers_steady (hr.mono (by decide)) B_Numbers_steady (fun σ => passAt tk σ) (pa_cons pe_int (pa_cons pe_non pa_nil)))) pss_nil) (pss_cons (ps_expr (pe_me (pv 0) in_Numbers.cl mt_Numbers_val F_Numbers_val (hr.mono (by decide)) B_Numbers_val .nil (fun σ => passAt tk σ) (pa_cons pe_int (pa_cons pe_int (pa_cons pe_str pa_nil))))) pss_nil)) pss_nil)) pss_nil)) pss_nil)) pss_nil)) pss_nil); exact (HdsN.cons (i := 3) (ts := (fun a cls d => tSeq (tAsg (tXfs (List.map (ca K) ["BadNumbers"]) "at" 3 a cls d) (gName 2)) tNext)) rfl rfl ⟨rfl, by decide, Or.inl g_BadNumbers⟩ (fun a o cls d pn hz hf => pss_cons (ps_set (i := 2) sc.nd rfl loc (pe_xfs (Cs := List.map (ca K) ["BadNumbers"]) (xfs_cons xi_BadNumbers.2 n_BadNumbers_at xfs_nil) hz hf (pv 3))) pss_nil) (HdsN.cons (i := 4) (ts := (fun a cls d => tSeq (tAsg (tLst (tCons (tC (.str (PySem.Str.ofString "word"))) (tCons (tXfs (List.map (ca K) ["BadWord"]) "at" 4 a cls d) tNil))) (gName 2)) tNext)) rfl rfl ⟨rfl, by decide, Or.inl g_BadWord⟩ (fun a o cls d pn hz hf => pss_cons (ps_set (i := 2) sc.nd rfl loc (pe_lst (pa_cons pe_str (pa_cons (pe_xfs (Cs := List.map (ca K) ["BadWord"]) (xfs_cons xi_BadWord.2 n_BadWord_at xfs_nil) hz hf (pv 4)) pa_nil)))) pss_nil) .nil))) (pss_cons (ps_ret (pv 2)) pss_nil))),
    (ss_seq (ss_set 2 (se_c fun _ => RD.non)) (ss_seq (ss_try (tb := fun W => (tSeq (tIfS (tTest (tOp (rEqS K) (tVar 1) (tC (.int 0)))) (tSeq (tDrop (tMe (ca K "Numbers") "changed" (spF K r_Numbers_changed) [] (WE W) (tVar 0) (tCons (tC (.int 3)) (tCons (tTup (tCons (tC (.int 1)) (tCons (tC (.int 2)) (tCons (tC (.int 3)) tNil)))) tNil)))) tNext) (tSeq (tIfS (tTest (tOp (rEqS K) (tVar 1) (tC (.int 1)))) (tSeq (tDrop (tMe (ca K "Numbers") "raised" (spF K r_Numbers_raised) [] (WE W) (tVar 0) (tCons (tC (.int 2)) (tCons (tTup (tCons (tUn (rU fun i => .int (-i)) (tC (.int 1))) (tCons (tC (.int 0)) tNil))) tNil)))) tNext) (tSeq (tIfS (tTest (tOp (rEqS K) (tVar 1) (tC (.int 2)))) (tSeq (tDrop (tMe (ca K "Numbers") "raised" (spF K r_Numbers_raised) [] (WE W) (tVar 0) (tCons (tC (.int 0)) (tCons (tC .non) tNil)))) tNext) (tSeq (tIfS (tTest (tOp (rEqS K) (tVar 1) (tC (.int 3)))) (tSeq (tDrop (tCmS (ca K "Numbers") (spF K r_Numbers_steady) (WE W) (tC (.ref (ca K "Numbers"))) (tCons (tUn (rU fun i => .int (-i)) (tC (.int 1))) (tCons (tC (.int 0)) tNil)))) tNext) (tSeq (tIfS (tTest (tOp (rEqS K) (tVar 1) (tC (.int 4)))) (tSeq (tDrop (tCmS (ca K "Numbers") (spF K r_Numbers_steady) (WE W) (tC (.ref (ca K "Numbers"))) (tCons (tC (.int 1)) (tCons (tC .non) tNil)))) tNext) (tSeq (tDrop (tMe (ca K "Numbers") "val" (spF K r_Numbers_val) [] (WE W) (tVar 0) (tCons (tC (.int 0)) (tCons (tC (.int 1)) (tCons (tC (.str (PySem.Str.ofString "udx"))) tNil))))) tNext)) tNext)) tNext)) tNext)) tNext)) tNext)) (fun w => (ss_seq (ss_if (st_v (se_op (o_eq) (se_var 1) (se_c fun _ => RD.int _))) (ss_seq (ss_drop (se_me (fun _ => .nil) (se_var 0) (sa_cons (se_c fun _ => RD.int _) (sa_cons (se_tup (sa_cons (se_c fun _ => RD.int _) (sa_cons (se_c fun _ => RD.int _) (sa_cons (se_c fun _ => RD.int _) sa_nil)))) sa_nil)))) ss_next) (ss_seq (ss_if (st_v (se_op (o_eq) (se_var 1) (se_c fun _ => RD.int _))) (ss_seq (ss_drop (se_me (fun _ => .nil) (se_var 0) (sa_cons (se_c fun _ => RD.int _) (sa_cons (se_tup (sa_cons (se_un o_neg (se_c fun _ => RD.int _)) (sa_cons (se_c fun _ => RD.int _) sa_nil))) sa_nil)))) ss_next) (ss_seq (ss_if (st_v (se_op (o_eq) (se_var 1) (se_c fun _ => RD.int _))) (ss_seq (ss_drop (se_me (fun _ => .nil) (se_var 0) (sa_cons (se_c fun _ => RD.int _) (sa_cons (se_c fun _ => RD.non) sa_nil)))) ss_next) (ss_seq (ss_if (st_v (se_op (o_eq) (se_var 1) (se_c fun _ => RD.int _))) (ss_seq (ss_drop (se_cmS (sa_cons (se_un o_neg (se_c fun _ => RD.int _)) (sa_cons (se_c fun _ => RD.int _) sa_nil)))) ss_next) (ss_seq (ss_if (st_v (se_op (o_eq) (se_var 1) (se_c fun _ => RD.int _))) (ss_seq (ss_drop (se_cmS (sa_cons (se_c fun _ => RD.int _) (sa_cons (se_c fun _ => RD.non) sa_nil)))) ss_next) (ss_seq (ss_drop (se_me (fun _ => .nil) (se_var 0) (sa_cons (se_c fun _ => RD.int _) (sa_cons (se_c fun _ => RD.int _) (sa_cons (se_c fun _ => RD.str _) sa_nil))))) ss_next)) ss_next)) ss_next)) ss_next)) ss_next)) ss_next)) (HdRel.cons (h := ⟨E_BadNumbers, 3, fun c fs => esSeq (esAsg (evXf fs "at") (egName 2)) esNext⟩) (cs := ["BadNumbers"]) ex_BadNumbers (tc_of (by decide +kernel)) (sh_seq (sh_asg fun a d c fs hc => (se_xf hc)) ss_next) (HdRel.cons (h := ⟨E_BadWord, 4, fun c fs => esSeq (esAsg (evLst false (eaCons (evC (.str (PySem.Str.ofString "word"))) (eaCons (evXf fs "at") eaNil))) (egName 2)) esNext⟩) (cs := ["BadWord"]) ex_BadWord (tc_of (by decide +kernel)) (sh_seq (sh_asg fun a d c fs hc => (se_lst false (sa_cons (se_c fun _ => RD.str _) (sa_cons (se_xf hc) sa_nil)))) ss_next) .nil))) (ss_seq (ss_ret (se_var 2)) ss_next)))⟩
def x__law_doors_right : Es := (esSeq (esFor (eiRng1 (eaCons (evC (.int 13)) eaNil)) (.one (egName 1)) (esSeq (esFor (eiSeq (evLst false (eaCons (evUn gNeg (evC (.int 1))) (eaCons (evC .non) (eaCons (evC (.bl true)) (eaCons (evC (.str (PySem.Str.ofString "0"))) eaNil)))))) (.one (egName 2)) (esSeq (esAsg (evLst false (eaCons (evC (.str (PySem.Str.ofString "rank"))) (eaCons (evVar 2) eaNil))) (egName 3)) (esSeq (esIf (etV (evBin (gCmp (fun i j => decide (j < i))) (evVar 1) (evC (.int 9)))) (esSeq (esAsg (evLst false (eaCons (evC (.str (PySem.Str.ofString "number"))) (eaCons (evC (.str (PySem.Str.ofString "many"))) eaNil))) (egName 3)) esNext) esNext) (esSeq (esIf (etV (evBin (gNe) (evCall r__law_door (eaCons (evVar 0) (eaCons (evVar 1) (eaCons (evVar 2) eaNil)))) (evVar 3))) (esSeq (esRet (evC (.bl false))) esNext) esNext) esNext)))) esNext)) (esSeq (esFor (eiSeq (evLst false (eaCons (evC (.int 2)) (eaCons (evC (.int 8)) (eaCons (evC (.int 9)) eaNil))))) (.one (egName 1)) (esSeq (esIf (etV (evBin (gNe) (evCall r__law_door (eaCons (evVar 0) (eaCons (evVar 1) (eaCons (evC (.int 1)) eaNil)))) (evLst false (eaCons (evC (.str (PySem.Str.ofString "rank"))) (eaCons (evC (.int 1)) eaNil))))) (esSeq (esRet (evC (.bl false))) esNext) esNext) esNext)) (esSeq (esIf (etV (evBin (gNe) (evLc false [1] (eiRng1 (eaCons (evC (.int 6)) eaNil)) (.one (egName 1)) etYes (evCall r__law_pair_refused (eaCons (evVar 0) (eaCons (evVar 1) eaNil)))) (evLst false (eaCons (evC (.int 3)) (eaCons (evC (.int 0)) (eaCons (evC (.int 0)) (eaCons (evC (.int 0)) (eaCons (evC (.int 0)) (eaCons (evLst false (eaCons (evC (.str (PySem.Str.ofString "word"))) (eaCons (evC (.int 2)) eaNil))) eaNil))))))))) (esSeq (esRet (evC (.bl false))) esNext) esNext) (esSeq (esRet (evBin (gOwnEq false "Numbers" T_any_Numbers r_Numbers___eq__) (evMe "Numbers" "raised" r_Numbers_raised [.tup [.int 1, .int 1]] (evVar 0) (eaCons (evC (.int 2)) eaNil)) (evMe "Numbers" "raised" r_Numbers_raised [] (evVar 0) (eaCons (evC (.int 2)) (eaCons (evTup (eaCons (evC (.int 1)) (eaCons (evC (.int 1)) eaNil))) eaNil))))) esNext))))
abbrev r__law_doors_right : G.Run := runF 1 4 x__law_doors_right
theorem sc__law_doors_right : FnScope ["_law_numbers", "_law_call", "_law_bad", "_law_due"] ["_law_numbers"] (defScope (top 43)) := ⟨rfl, rfl, rfl, by decide +kernel, rfl, by decide +kernel, by decide +kernel⟩
theorem ok__law_doors_right (KB : K.In base) (GB : base.Ns mainGlobals mg) (c : Says ts fn K) : Def P w K mg base 10 (gAt "_law_doors_right" K) ["_law_numbers"] (spF K r__law_doors_right) (All K ["_law_numbers"]) := by
  obtain ⟨fd, F⟩ := c.def_ 50 (d := d__law_doors_right) rfl
  have g_range := He.free_ok KB GB (c.test 53 (t := (He.Fa.free "range").ok) rfl)
  obtain ⟨fd__law_door, F__law_door, B__law_door, P__law_door⟩ := (ok__law_door (P := P) (w := w) KB GB c).ex
  have g__law_door := He.glo_ok KB GB (c.test 36 (t := (He.Fa.glo "_law_door").ok) rfl)
  obtain ⟨fd__law_pair_refused, F__law_pair_refused, B__law_pair_refused, P__law_pair_refused⟩ := (ok__law_pair_refused (P := P) (w := w) KB GB c).ex
  have g__law_pair_refused := He.glo_ok KB GB (c.test 37 (t := (He.Fa.glo "_law_pair_refused").ok) rfl)
  obtain ⟨fd_Numbers_raised, F_Numbers_raised, B_Numbers_raised, P_Numbers_raised⟩ := (ok_Numbers_raised (P := P) (w := w) KB GB c).ex
  have in_Numbers := insB_ok (c.test 77 (t := insB "Numbers") rfl)
  have mt_Numbers_raised := He.meth_ok (c.test 93 (t := (He.Fa.meth "Numbers" "raised").ok) rfl)
  obtain ⟨_, ds_Numbers_raised, V_Numbers_raised, W_Numbers_raised⟩ := id B_Numbers_raised
  have ta_Numbers_raised_0 := tupA_ok (c.test 1 (t := tupA dfl_Numbers_raised_p0 [.int (1), .int (1)]) rfl)
  obtain ⟨fd_Numbers___eq__, F_Numbers___eq__, B_Numbers___eq__, P_Numbers___eq__⟩ := (ok_Numbers___eq__ (P := P) (w := w) KB GB c).ex
  have eq_Numbers := eqB_ok (c.test 84 (t := eqB "Numbers") rfl)
  have nf_Numbers := nfB_ok (c.test 105 (t := nfB "Numbers" T_any_Numbers) rfl)
  have sc := sc__law_doors_right
  refine ⟨fd, fn_ok F sc 4 rfl fun cdv A outer s H E hr => ?_, F.bindsN fun _ _ _ _ _ _ us hl => match us, hl with | [_], _ => rfl, F.kp⟩
  exact ⟨_, (pss_cons (ps_for (passes_of rfl) rfl (pi_range1 rfl g_range (pa_cons pe_int pa_nil)) (pg_name sc.nd (i := 1) rfl loc) (pss_cons (ps_for (passes_of rfl) rfl (pi_seq (pi_list (pe_lst (pa_cons (pe_un un_neg pe_int) (pa_cons pe_non (pa_cons pe_bl (pa_cons pe_str pa_nil)))))) (pi_tup (pe_lst (pa_cons (pe_un un_neg pe_int) (pa_cons pe_non (pa_cons pe_bl (pa_cons pe_str pa_nil)))))) (pi_str (pe_lst (pa_cons (pe_un un_neg pe_int) (pa_cons pe_non (pa_cons pe_bl (pa_cons pe_str pa_nil))))))) (pg_name sc.nd (i := 2) rfl loc) (pss_cons (ps_set (i := 3) sc.nd rfl loc (pe_lst (pa_cons pe_str (pa_cons (pv 2) pa_nil)))) (pss_cons (ps_if (pt_cmpR op_gt (pv 1) pe_int (nomark _)) (pss_cons (ps_set (i := 3) sc.nd rfl loc (pe_lst (pa_cons pe_str (pa_cons pe_str pa_nil)))) pss_nil) pss_nil) (pss_cons (ps_if (pt_cmpR (op_neS hr.units) (pe_callS F__law_door (hr.mono (by decide)) rfl g__law_door P__law_door B__law_door (fun σ => passAt (takes_of rfl rfl rfl rfl) σ) (pa_cons (pv 0) (pa_cons (pv 1) (pa_cons (pv 2) pa_nil)))) (pv 3) (nomark _)) (pss_cons (ps_ret pe_bl) pss_nil) pss_nil) pss_nil)))) pss_nil)) (pss_cons (ps_for (passes_of rfl) rfl (pi_seq (pi_list (pe_lst (pa_cons pe_int (pa_cons pe_int (pa_cons pe_int pa_nil))))) (pi_tup (pe_lst (pa_cons pe_int (pa_cons pe_int (pa_cons pe_int pa_nil))))) (pi_str (pe_lst (pa_cons pe_int (pa_cons pe_int (pa_cons pe_int pa_nil)))))) (pg_name sc.nd (i := 1) rfl loc) (pss_cons (ps_if (pt_cmpR (op_neS hr.units) (pe_callS F__law_door (hr.mono (by decide)) rfl g__law_door P__law_door B__law_door (fun σ => passAt (takes_of rfl rfl rfl rfl) σ) (pa_cons (pv 0) (pa_cons (pv 1) (pa_cons pe_int pa_nil)))) (pe_lst (pa_cons pe_str (pa_cons pe_int pa_nil))) (nomark _)) (pss_cons (ps_ret pe_bl) pss_nil) pss_nil) pss_nil)) (pss_cons (ps_if (pt_cmpR (op_neS hr.units) (pe_lc (own := [("_law_call", 1)]) rfl sc.nd (pi_range1 rfl g_range (pa_cons pe_int pa_nil)) (show BlkOk ["_law_numbers", "_law_call", "_law_bad", "_law_due"] (defScope (top 43)) _ [("_law_call", 1)] from ⟨rfl, by decide +kernel, by decide +kernel, by decide +kernel, by decide +kernel⟩) (fun s H C cl fp => (pg_name sc.nd (i := 1) rfl loc)) (fun s H C cl fp => pts_nil) (fun s H C cl fp => (pe_callS F__law_pair_refused (hr.mono (by decide)) rfl g__law_pair_refused P__law_pair_refused B__law_pair_refused (fun σ => passAt takes0 σ) (pa_cons (pv 0) (pa_cons (pv 1) pa_nil))))) (pe_lst (pa_cons pe_int (pa_cons pe_int (pa_cons pe_int (pa_cons pe_int (pa_cons pe_int (pa_cons (pe_lst (pa_cons pe_str (pa_cons pe_int pa_nil))) pa_nil))))))) (nomark _)) (pss_cons (ps_ret pe_bl) pss_nil) pss_nil) (pss_cons (ps_ret (pe_cmpR (op_owneq eq_Numbers F_Numbers___eq__ (hr.mono (by decide)) B_Numbers___eq__ fun _ => passF) (pe_me (pv 0) in_Numbers.cl mt_Numbers_raised F_Numbers_raised (hr.mono (by decide)) W_Numbers_raised V_Numbers_raised (fun σ => passAt (takes_of rfl rfl rfl rfl) σ) (pa_cons pe_int pa_nil)) (pe_me (pv 0) in_Numbers.cl mt_Numbers_raised F_Numbers_raised (hr.mono (by decide)) B_Numbers_raised.1 .nil (fun σ => passAt (takes_of rfl rfl rfl rfl) σ) (pa_cons pe_int (pa_cons (pe_tup (pa_cons pe_int (pa_cons pe_int pa_nil))) pa_nil))) (nomark _))) pss_nil)))),
    (ss_seq (ss_for (si_rng1 (sa_cons (se_c fun _ => RD.int _) sa_nil)) (stk_one (sg_name 1)) (ss_seq (ss_for (si_seq (se_lst false (sa_cons (se_un o_neg (se_c fun _ => RD.int _)) (sa_cons (se_c fun _ => RD.non) (sa_cons (se_c fun _ => RD.bl _) (sa_cons (se_c fun _ => RD.str _) sa_nil)))))) (stk_one (sg_name 2)) (ss_seq (ss_set 3 (se_lst false (sa_cons (se_c fun _ => RD.str _) (sa_cons (se_var 2) sa_nil)))) (ss_seq (ss_if (st_v (se_op (o_cmp _) (se_var 1) (se_c fun _ => RD.int _))) (ss_seq (ss_set 3 (se_lst false (sa_cons (se_c fun _ => RD.str _) (sa_cons (se_c fun _ => RD.str _) sa_nil)))) ss_next) ss_next) (ss_seq (ss_if (st_v (se_op (o_ne) (se_call (sa_cons (se_var 0) (sa_cons (se_var 1) (sa_cons (se_var 2) sa_nil)))) (se_var 3))) (ss_seq (ss_ret (se_c fun _ => RD.bl _)) ss_next) ss_next) ss_next)))) ss_next)) (ss_seq (ss_for (si_seq (se_lst false (sa_cons (se_c fun _ => RD.int _) (sa_cons (se_c fun _ => RD.int _) (sa_cons (se_c fun _ => RD.int _) sa_nil))))) (stk_one (sg_name 1)) (ss_seq (ss_if (st_v (se_op (o_ne) (se_call (sa_cons (se_var 0) (sa_cons (se_var 1) (sa_cons (se_c fun _ => RD.int _) sa_nil)))) (se_lst false (sa_cons (se_c fun _ => RD.str _) (sa_cons (se_c fun _ => RD.int _) sa_nil))))) (ss_seq (ss_ret (se_c fun _ => RD.bl _)) ss_next) ss_next) ss_next)) (ss_seq (ss_if (st_v (se_op (o_ne) (se_lc (w' := noX) false (si_rng1 (sa_cons (se_c fun _ => RD.int _) sa_nil)) (stk_one (sg_name 1)) (gw_name (by decide)) etyes (se_call (sa_cons (se_var 0) (sa_cons (se_var 1) sa_nil)))) (se_lst false (sa_cons (se_c fun _ => RD.int _) (sa_cons (se_c fun _ => RD.int _) (sa_cons (se_c fun _ => RD.int _) (sa_cons (se_c fun _ => RD.int _) (sa_cons (se_c fun _ => RD.int _) (sa_cons (se_lst false (sa_cons (se_c fun _ => RD.str _) (sa_cons (se_c fun _ => RD.int _) sa_nil))) sa_nil))))))))) (ss_seq (ss_ret (se_c fun _ => RD.bl _)) ss_next) ss_next) (ss_seq (ss_ret (se_op (o_owneq nf_Numbers) (se_me (fun H0 => (.cons (RD.tup (ta_Numbers_raised_0 H0) (.cons (RD.int _) (.cons (RD.int _) .nil))) .nil)) (se_var 0) (sa_cons (se_c fun _ => RD.int _) sa_nil)) (se_me (fun _ => .nil) (se_var 0) (sa_cons (se_c fun _ => RD.int _) (sa_cons (se_tup (sa_cons (se_c fun _ => RD.int _) (sa_cons (se_c fun _ => RD.int _) sa_nil))) sa_nil))))) ss_next))))⟩
def x__law_kept_apart : Es := (esSeq (esAsg (evLc true [11] (eiSeq (evVar 0)) (.one (egName 11)) etYes (evLst true (eaCons (evBin gIx (evVar 11) (evC (.int 0))) (eaCons (evBin gIx (evVar 11) (evC (.int 1))) eaNil)))) (egName 3)) (esSeq (esAsg (evLst true (eaCons (evBin gIx (evVar 1) (evC (.int 0))) (eaCons (evBin gIx (evVar 1) (evC (.int 1))) eaNil))) (egName 4)) (esSeq (esAsg (evMk "Numbers" 1 1 r_Numbers___init__ (fun ws zs => ws ++ zs) (eaCons (evVar 3) eaNil) (eaCons (evVar 4) eaNil)) (egName 5)) (esSeq (esFor (eiRng1 (eaCons (evCB gLen (eaCons (evVar 0) eaNil)) eaNil)) (.one (egName 6)) (esSeq (esAugS gAddI (evBin gIx (evVar 3) (evVar 6)) (evC (.int 1)) (evC (.int 5))) esNext)) (esSeq (esDrop (evBM isL gAppend (evVar 3) (eaCons (evLst false (eaCons (evC (.int 3)) (eaCons (evC (.int 9)) eaNil))) eaNil))) (esSeq (esAugS gAddI (evVar 4) (evC (.int 0)) (evC (.int 1))) (esSeq (esAsg (evCB (gList false) (eaCons (evVar 0) eaNil)) (egName 7)) (esSeq (esFor (eiRng1 (eaCons (evCB gLen (eaCons (evVar 0) eaNil)) eaNil)) (.one (egName 6)) (esSeq (esIf (etAnd (etV (evBin (gCmp (fun i j => decide (j < i))) (evCB gLen (eaCons (evVar 7) eaNil)) (evC (.int 0)))) (etV (evBin (gEq) (evBin gIx (evVar 7) (evBin (gMinus) (evCB gLen (eaCons (evVar 7) eaNil)) (evC (.int 1)))) (evVar 1)))) (esSeq (esAsg (evSl false (evVar 7) eoNone (eoSome (evBin (gMinus) (evCB gLen (eaCons (evVar 7) eaNil)) (evC (.int 1))))) (egName 7)) esNext) esNext) esNext)) (esSeq (esIf (etOr (etNot (etV (evBin (gOwnEq false "Numbers" T_any_Numbers r_Numbers___eq__) (evVar 5) (evVar 2)))) (etOr (etV (evBin (gNe) (evFld ["Numbers"] "tail" (evVar 5)) (evVar 1))) (etNot (etV (evIs T_tuple (evFld ["Numbers"] "tail" (evVar 5))))))) (esSeq (esRet (evC (.bl false))) esNext) esNext) (esSeq (esFor (eiSeq (evLst false (eaCons (evVar 5) (eaCons (evVar 2) eaNil)))) (.one (egName 8)) (esSeq (esIf (etOr (etNot (etV (evIs T_tuple (evFld ["Numbers"] "pairs" (evVar 8))))) (etV (evBin (gNe) (evCB (gList false) (eaCons (evFld ["Numbers"] "pairs" (evVar 8)) eaNil)) (evVar 7)))) (esSeq (esRet (evC (.bl false))) esNext) esNext) (esSeq (esIf (etV (evBin (gCmp (fun i j => decide (j < i))) (evCB gLen (eaCons (evLc false [11] (eiSeq (evFld ["Numbers"] "pairs" (evVar 8))) (.one (egName 11)) (etNot (etV (evIs T_tuple (evVar 11)))) (evVar 11)) eaNil)) (evC (.int 0)))) (esSeq (esRet (evC (.bl false))) esNext) esNext) esNext))) (esSeq (esAsg (evMe "Numbers" "changed" r_Numbers_changed [] (evVar 5) (eaCons (evC (.int 2)) (eaCons (evLst false (eaCons (evC (.int 4)) (eaCons (evC (.int 7)) eaNil))) eaNil))) (egName 9)) (esSeq (esAsg (evMe "Numbers" "raised" r_Numbers_raised [] (evVar 5) (eaCons (evC (.int 1)) (eaCons (evLst false (eaCons (evC (.int 5)) (eaCons (evC (.int 8)) eaNil))) eaNil))) (egName 10)) (esSeq (esFor (eiSeq (evLst false (eaCons (evSubO "Numbers" r_Numbers___getitem__ (evVar 9) (evC (.int 2))) (eaCons (evSubO "Numbers" r_Numbers___getitem__ (evVar 10) (evC (.int 0))) (eaCons (evSubO "Numbers" r_Numbers___getitem__ (evVar 5) (evCB gLen (eaCons (evVar 0) eaNil))) eaNil))))) (.one (egName 11)) (esSeq (esIf (etOr (etNot (etV (evIs T_tuple (evVar 11)))) (etV (evBin (gNe) (evCB gLen (eaCons (evVar 11) eaNil)) (evC (.int 2))))) (esSeq (esRet (evC (.bl false))) esNext) esNext) esNext)) (esSeq (esRet (evAnd (evBin (gEq) (evSubO "Numbers" r_Numbers___getitem__ (evVar 9) (evC (.int 2))) (evTup (eaCons (evC (.int 4)) (eaCons (evC (.int 7)) eaNil)))) (evAnd (evBin (gEq) (evSubO "Numbers" r_Numbers___getitem__ (evVar 10) (evC (.int 0))) (evTup (eaCons (evC (.int 5)) (eaCons (evC (.int 8)) eaNil)))) (evBin (gEq) (evSubO "Numbers" r_Numbers___getitem__ (evVar 5) (evCB gLen (eaCons (evVar 0) eaNil))) (evVar 1))))) esNext))))))))))))))
abbrev r__law_kept_apart : G.Run := runF 3 12 x__law_kept_apart
theorem sc__law_kept_apart : FnScope ["_law_pairs", "_law_tail", "_law_numbers", "_law_lists", "_law_end", "_law_other", "_law_at_here", "_law_due", "_law_told", "_law_changed", "_law_raised", "_law_one"] ["_law_pairs", "_law_tail", "_law_numbers"] (defScope (top 44)) := ⟨rfl, rfl, rfl, by decide +kernel, rfl, by decide +kernel, by decide +kernel⟩
theorem ok__law_kept_apart (KB : K.In base) (GB : base.Ns mainGlobals mg) (c : Says ts fn K) : Def P w K mg base 8 (gAt "_law_kept_apart" K) ["_law_pairs", "_law_tail", "_law_numbers"] (spF K r__law_kept_apart) (All K ["_law_pairs", "_law_tail", "_law_numbers"]) := by
  obtain ⟨fd, F⟩ := c.def_ 51 (d := d__law_kept_apart) rfl
  obtain ⟨fd_Numbers___init__, F_Numbers___init__, B_Numbers___init__, P_Numbers___init__⟩ := (ok_Numbers___init__ (P := P) (w := w) KB GB c).ex
  have mk_Numbers := He.mkr_ok (c.test 78 (t := (He.Fa.mkr "Numbers").ok) rfl)
  obtain ⟨gK_Numbers___init__, K_Numbers___init__⟩ := B_Numbers___init__
  have g_Numbers := He.glo_ok KB GB (c.test 20 (t := (He.Fa.glo "Numbers").ok) rfl)
  have g_len := He.free_ok KB GB (c.test 49 (t := (He.Fa.free "len").ok) rfl)
  have g_range := He.free_ok KB GB (c.test 53 (t := (He.Fa.free "range").ok) rfl)
  have g_list := He.free_ok KB GB (c.test 50 (t := (He.Fa.free "list").ok) rfl)
  obtain ⟨fd_Numbers___eq__, F_Numbers___eq__, B_Numbers___eq__, P_Numbers___eq__⟩ := (ok_Numbers___eq__ (P := P) (w := w) KB GB c).ex
  have eq_Numbers := eqB_ok (c.test 84 (t := eqB "Numbers") rfl)
  have nf_Numbers := nfB_ok (c.test 105 (t := nfB "Numbers" T_any_Numbers) rfl)
  have in_Numbers := insB_ok (c.test 77 (t := insB "Numbers") rfl)
  have n_Numbers_tail := He.noat_ok (c.test 97 (t := (He.Fa.noat "Numbers" "tail").ok) rfl)
  have g_isinstance := He.free_ok KB GB (c.test 48 (t := (He.Fa.free "isinstance").ok) rfl)
  have g_tuple := He.free_ok KB GB (c.test 55 (t := (He.Fa.free "tuple").ok) rfl)
  have i_tuple := isB_ty (c.test 103 (t := isB (fun _ => .type "tuple") T_tuple) rfl)
  have n_Numbers_pairs := He.noat_ok (c.test 96 (t := (He.Fa.noat "Numbers" "pairs").ok) rfl)
  obtain ⟨fd_Numbers_changed, F_Numbers_changed, B_Numbers_changed, P_Numbers_changed⟩ := (ok_Numbers_changed (P := P) (w := w) KB GB c).ex
  have mt_Numbers_changed := He.meth_ok (c.test 91 (t := (He.Fa.meth "Numbers" "changed").ok) rfl)
  obtain ⟨fd_Numbers_raised, F_Numbers_raised, B_Numbers_raised, P_Numbers_raised⟩ := (ok_Numbers_raised (P := P) (w := w) KB GB c).ex
  have mt_Numbers_raised := He.meth_ok (c.test 93 (t := (He.Fa.meth "Numbers" "raised").ok) rfl)
  obtain ⟨fd_Numbers___getitem__, F_Numbers___getitem__, B_Numbers___getitem__, P_Numbers___getitem__⟩ := (ok_Numbers___getitem__ (P := P) (w := w) KB GB c).ex
  have it_Numbers := itemB_ok (c.test 83 (t := itemB "Numbers") rfl)
  have sc := sc__law_kept_apart
  refine ⟨fd, fn_ok F sc 12 rfl fun cdv A outer s H E hr => ?_, F.bindsN fun _ _ _ _ _ _ us hl => match us, hl with | [_, _, _], _ => rfl, F.kp⟩
  exact ⟨_, (pss_cons (ps_setLc (i := 3) (own := [("_law_one", 11)]) rfl sc.nd rfl rfl rfl (pi_seq (pi_list (pv 0)) (pi_tup (pv 0)) (pi_str (pv 0))) (show BlkOk ["_law_pairs", "_law_tail", "_law_numbers", "_law_lists", "_law_end", "_law_other", "_law_at_here", "_law_due", "_law_told", "_law_changed", "_law_raised", "_law_one"] (defScope (top 44)) _ [("_law_one", 11)] from ⟨rfl, by decide +kernel, by decide +kernel, by decide +kernel, by decide +kernel⟩) (fun s H C cl fp => (pg_name sc.nd (i := 11) rfl loc)) (fun s H C cl fp => pts_nil) (fun s H C cl fp => (pe_lst (pa_cons (pe_ix ix_seq (pv 11) pe_int (fun _ _ => rfl)) (pa_cons (pe_ix ix_seq (pv 11) pe_int (fun _ _ => rfl)) pa_nil))))) (pss_cons (ps_set (i := 4) sc.nd rfl loc (pe_lst (pa_cons (pe_ix ix_seq (pv 1) pe_int (fun _ _ => rfl)) (pa_cons (pe_ix ix_seq (pv 1) pe_int (fun _ _ => rfl)) pa_nil)))) (pss_cons (ps_set (i := 5) sc.nd rfl loc (pe_mkS mk_Numbers F_Numbers___init__ (hr.mono (by decide)) rfl g_Numbers K_Numbers___init__ (fun σ => passAt (takes_of rfl rfl rfl rfl) σ) (pa_cons (pv 3) pa_nil) (pk_cons (pv 4) pk_nil))) (pss_cons (ps_for (passes_of rfl) rfl (pi_range1 rfl g_range (pa_cons (pe_callB call_len rfl g_len b_len (pa_cons (pv 0) pa_nil)) pa_nil)) (pg_name sc.nd (i := 6) rfl loc) (pss_cons (ps_augS (pe_ix ix_seq (pv 3) (pv 6) (fun _ _ => rfl)) pe_int get_seq pe_int iop_plus set_list) pss_nil)) (pss_cons (ps_expr (pe_bm PySem.F.plainAttrs_list PySem.F.slot_list_append PySem.F.type_list_append mt_append (pv 3) (pa_cons (pe_lst (pa_cons pe_int (pa_cons pe_int pa_nil))) pa_nil))) (pss_cons (ps_augS (pv 4) pe_int get_seq pe_int iop_plus set_list) (pss_cons (ps_set (i := 7) sc.nd rfl loc (pe_callTy call_list_of rfl g_list b_list (pa_cons (pv 0) pa_nil))) (pss_cons (ps_for (passes_of rfl) rfl (pi_range1 rfl g_range (pa_cons (pe_callB call_len rfl g_len b_len (pa_cons (pv 0) pa_nil)) pa_nil)) (pg_name sc.nd (i := 6) rfl loc) (pss_cons (ps_if (PW.pt (pw_and (pt_cmpR op_gt (pe_callB call_len rfl g_len b_len (pa_cons (pv 7) pa_nil)) pe_int (nomark _)) (pw_and1 (pt_cmpR (op_eqS hr.units) (pe_ix ix_seq (pv 7) (pe_op op_sub (pe_callB call_len rfl g_len b_len (pa_cons (pv 7) pa_nil)) pe_int) (fun _ _ => rfl)) (pv 1) (nomark _))))) (pss_cons (ps_set (i := 7) sc.nd rfl loc (pe_slice sl_seq (pv 7) po_none (po_some (pe_op op_sub (pe_callB call_len rfl g_len b_len (pa_cons (pv 7) pa_nil)) pe_int)))) pss_nil) pss_nil) pss_nil)) (pss_cons (ps_if (PW.pt (pw_or (pt_not (pt_cmpR (op_owneq eq_Numbers F_Numbers___eq__ (hr.mono (by decide)) B_Numbers___eq__ fun _ => passF) (pv 5) (pv 2) (nomark _))) (pw_or (pt_cmpR (op_neS hr.units) (pe_fld (pv 5) rfl) (pv 1) (nomark _)) (pw_or1 (pt_not (pt_val (pe_callB call_isi rfl g_isinstance b_isinstance (pa_cons (pe_fld (pv 5) rfl) (pa_cons (pe_ty rfl g_tuple b_tuple) pa_nil))))))))) (pss_cons (ps_ret pe_bl) pss_nil) pss_nil) (pss_cons (ps_for (passes_of rfl) rfl (pi_seq (pi_list (pe_lst (pa_cons (pv 5) (pa_cons (pv 2) pa_nil)))) (pi_tup (pe_lst (pa_cons (pv 5) (pa_cons (pv 2) pa_nil)))) (pi_str (pe_lst (pa_cons (pv 5) (pa_cons (pv 2) pa_nil))))) (pg_name sc.nd (i := 8) rfl loc) (pss_cons (ps_if (PW.pt (pw_or (pt_not (pt_val (pe_callB call_isi rfl g_isinstance b_isinstance (pa_cons (pe_fld (pv 8) rfl) (pa_cons (pe_ty rfl g_tuple b_tuple) pa_nil))))) (pw_or1 (pt_cmpR (op_neS hr.units) (pe_callTy call_list_of rfl g_list b_list (pa_cons (pe_fld (pv 8) rfl) pa_nil)) (pv 7) (nomark _))))) (pss_cons (ps_ret pe_bl) pss_nil) pss_nil) (pss_cons (ps_if (pt_cmpR op_gt (pe_callB call_len rfl g_len b_len (pa_cons (pe_lc (own := [("_law_one", 11)]) rfl sc.nd (pi_seq (pi_list (pe_fld (pv 8) rfl)) (pi_tup (pe_fld (pv 8) rfl)) (pi_str (pe_fld (pv 8) rfl))) (show BlkOk ["_law_pairs", "_law_tail", "_law_numbers", "_law_lists", "_law_end", "_law_other", "_law_at_here", "_law_due", "_law_told", "_law_changed", "_law_raised", "_law_one"] (defScope (top 44)) _ [("_law_one", 11)] from ⟨rfl, by decide +kernel, by decide +kernel, by decide +kernel, by decide +kernel⟩) (fun s H C cl fp => (pg_name sc.nd (i := 11) rfl loc)) (fun s H C cl fp => (pts_one (pt_not (pt_val (pe_callB call_isi rfl g_isinstance b_isinstance (pa_cons (pv 11) (pa_cons (pe_ty rfl g_tuple b_tuple) pa_nil))))))) (fun s H C cl fp => (pv 11))) pa_nil)) pe_int (nomark _)) (pss_cons (ps_ret pe_bl) pss_nil) pss_nil) pss_nil))) (pss_cons (ps_set (i := 9) sc.nd rfl loc (pe_me (pv 5) in_Numbers.cl mt_Numbers_changed F_Numbers_changed (hr.mono (by decide)) B_Numbers_changed .nil (fun σ => passAt (takes_of rfl rfl rfl rfl) σ) (pa_cons pe_int (pa_cons (pe_lst (pa_cons pe_int (pa_cons pe_int pa_nil))) pa_nil)))) (pss_cons (ps_set (i := 10) sc.nd rfl loc (pe_me (pv 5) in_Numbers.cl mt_Numbers_raised F_Numbers_raised (hr.mono (by decide)) B_Numbers_raised.1 .nil (fun σ => passAt (takes_of rfl rfl rfl rfl) σ) (pa_cons pe_int (pa_cons (pe_lst (pa_cons pe_int (pa_cons pe_int pa_nil))) pa_nil)))) (pss_cons (ps_for (passes_of rfl) rfl (pi_seq (pi_list (pe_lst (pa_cons (pe_subO (pv 9) pe_int it_Numbers.1 it_Numbers.2.1 it_Numbers.2.2 F_Numbers___getitem__ (hr.mono (by decide)) B_Numbers___getitem__ (fun σ => passAt (takes_of rfl rfl rfl rfl) σ)) (pa_cons (pe_subO (pv 10) pe_int it_Numbers.1 it_Numbers.2.1 it_Numbers.2.2 F_Numbers___getitem__ (hr.mono (by decide)) B_Numbers___getitem__ (fun σ => passAt (takes_of rfl rfl rfl rfl) σ)) (pa_cons (pe_subO (pv 5) (pe_callB call_len rfl g_len b_len (pa_cons (pv 0) pa_nil)) it_Numbers.1 it_Numbers.2.1 it_Numbers.2.2 F_Numbers___getitem__ (hr.mono (by decide)) B_Numbers___getitem__ (fun σ => passAt (takes_of rfl rfl rfl rfl) σ)) pa_nil))))) (pi_tup (pe_lst (pa_cons (pe_subO (pv 9) pe_int it_Numbers.1 it_Numbers.2.1 it_Numbers.2.2 F_Numbers___getitem__ (hr.mono (by decide)) B_Numbers___getitem__ (fun σ => passAt (takes_of rfl rfl rfl rfl) σ)) (pa_cons (pe_subO (pv 10) pe_int it_Numbers.1 it_Numbers.2.1 it_Numbers.2.2 F_Numbers___getitem__ (hr.mono (by decide)) B_Numbers___getitem__ (fun σ => passAt (takes_of rfl rfl rfl rfl) σ)) (pa_cons (pe_subO (pv 5) (pe_callB call_len rfl g_len b_len (pa_cons (pv 0) pa_nil)) it_Numbers.1 it_Numbers.2.1 it_Numbers.2.2 F_Numbers___getitem__ (hr.mono (by decide)) B_Numbers___getitem__ (fun σ => passAt (takes_of rfl rfl rfl rfl) σ)) pa_nil))))) (pi_str (pe_lst (pa_cons (pe_subO (pv 9) pe_int it_Numbers.1 it_Numbers.2.1 it_Numbers.2.2 F_Numbers___getitem__ (hr.mono (by decide)) B_Numbers___getitem__ (fun σ => passAt (takes_of rfl rfl rfl rfl) σ)) (pa_cons (pe_subO (pv 10) pe_int it_Numbers.1 it_Numbers.2.1 it_Numbers.2.2 F_Numbers___getitem__ (hr.mono (by decide)) B_Numbers___getitem__ (fun σ => passAt (takes_of rfl rfl rfl rfl) σ)) (pa_cons (pe_subO (pv 5) (pe_callB call_len rfl g_len b_len (pa_cons (pv 0) pa_nil)) it_Numbers.1 it_Numbers.2.1 it_Numbers.2.2 F_Numbers___getitem__ (hr.mono (by decide)) B_Numbers___getitem__ (fun σ => passAt (takes_of rfl rfl rfl rfl) σ)) pa_nil)))))) (pg_name sc.nd (i := 11) rfl loc) (pss_cons (ps_if (PW.pt (pw_or (pt_not (pt_val (pe_callB call_isi rfl g_isinstance b_isinstance (pa_cons (pv 11) (pa_cons (pe_ty rfl g_tuple b_tuple) pa_nil))))) (pw_or1 (pt_cmpR (op_neS hr.units) (pe_callB call_len rfl g_len b_len (pa_cons (pv 11) pa_nil)) pe_int (nomark _))))) (pss_cons (ps_ret pe_bl) pss_nil) pss_nil) pss_nil)) (pss_cons (ps_ret (pe_and (pe_cmpR (op_eqS hr.units) (pe_subO (pv 9) pe_int it_Numbers.1 it_Numbers.2.1 it_Numbers.2.2 F_Numbers___getitem__ (hr.mono (by decide)) B_Numbers___getitem__ (fun σ => passAt (takes_of rfl rfl rfl rfl) σ)) (pe_tup (pa_cons pe_int (pa_cons pe_int pa_nil))) (nomark _)) (pe_and (pe_cmpR (op_eqS hr.units) (pe_subO (pv 10) pe_int it_Numbers.1 it_Numbers.2.1 it_Numbers.2.2 F_Numbers___getitem__ (hr.mono (by decide)) B_Numbers___getitem__ (fun σ => passAt (takes_of rfl rfl rfl rfl) σ)) (pe_tup (pa_cons pe_int (pa_cons pe_int pa_nil))) (nomark _)) (pe_one (pe_cmpR (op_eqS hr.units) (pe_subO (pv 5) (pe_callB call_len rfl g_len b_len (pa_cons (pv 0) pa_nil)) it_Numbers.1 it_Numbers.2.1 it_Numbers.2.2 F_Numbers___getitem__ (hr.mono (by decide)) B_Numbers___getitem__ (fun σ => passAt (takes_of rfl rfl rfl rfl) σ)) (pv 1) (nomark _)))))) pss_nil)))))))))))))),
    (ss_seq (ss_set 3 (se_lc (w' := noX) true (si_seq (se_var 0)) (stk_one (sg_name 11)) (gw_name (by decide)) etyes (se_lst true (sa_cons (se_op o_ix (se_var 11) (se_c fun _ => RD.int _)) (sa_cons (se_op o_ix (se_var 11) (se_c fun _ => RD.int _)) sa_nil))))) (ss_seq (ss_set 4 (se_lst true (sa_cons (se_op o_ix (se_var 1) (se_c fun _ => RD.int _)) (sa_cons (se_op o_ix (se_var 1) (se_c fun _ => RD.int _)) sa_nil)))) (ss_seq (ss_set 5 (se_mk put1 (sa_cons (se_var 3) sa_nil) (sa_cons (se_var 4) sa_nil))) (ss_seq (ss_for (si_rng1 (sa_cons (se_cb oc_len (sa_cons (se_var 0) sa_nil)) sa_nil)) (stk_one (sg_name 6)) (ss_seq (ss_augS (se_op o_ix (se_var 3) (se_var 6)) (se_c fun _ => RD.int _) (se_c fun _ => RD.int _) o_addI) ss_next)) (ss_seq (ss_drop (se_bm ty_list om_append (se_var 3) (sa_cons (se_lst false (sa_cons (se_c fun _ => RD.int _) (sa_cons (se_c fun _ => RD.int _) sa_nil))) sa_nil))) (ss_seq (ss_augS (se_var 4) (se_c fun _ => RD.int _) (se_c fun _ => RD.int _) o_addI) (ss_seq (ss_set 7 (se_cb (oc_list false) (sa_cons (se_var 0) sa_nil))) (ss_seq (ss_for (si_rng1 (sa_cons (se_cb oc_len (sa_cons (se_var 0) sa_nil)) sa_nil)) (stk_one (sg_name 6)) (ss_seq (ss_if (st_and (st_v (se_op (o_cmp _) (se_cb oc_len (sa_cons (se_var 7) sa_nil)) (se_c fun _ => RD.int _))) (st_v (se_op (o_eq) (se_op o_ix (se_var 7) (se_op (o_sub) (se_cb oc_len (sa_cons (se_var 7) sa_nil)) (se_c fun _ => RD.int _))) (se_var 1)))) (ss_seq (ss_set 7 (se_sl false (se_var 7) so_none (so_some (se_op (o_sub) (se_cb oc_len (sa_cons (se_var 7) sa_nil)) (se_c fun _ => RD.int _))))) ss_next) ss_next) ss_next)) (ss_seq (ss_if (st_or (st_not (st_v (se_op (o_owneq nf_Numbers) (se_var 5) (se_var 2)))) (st_or (st_v (se_op (o_ne) (se_fld (fld1 in_Numbers.cl n_Numbers_tail) (se_var 5)) (se_var 1))) (st_not (st_v (se_is i_tuple (se_fld (fld1 in_Numbers.cl n_Numbers_tail) (se_var 5))))))) (ss_seq (ss_ret (se_c fun _ => RD.bl _)) ss_next) ss_next) (ss_seq (ss_for (si_seq (se_lst false (sa_cons (se_var 5) (sa_cons (se_var 2) sa_nil)))) (stk_one (sg_name 8)) (ss_seq (ss_if (st_or (st_not (st_v (se_is i_tuple (se_fld (fld1 in_Numbers.cl n_Numbers_pairs) (se_var 8))))) (st_v (se_op (o_ne) (se_cb (oc_list false) (sa_cons (se_fld (fld1 in_Numbers.cl n_Numbers_pairs) (se_var 8)) sa_nil)) (se_var 7)))) (ss_seq (ss_ret (se_c fun _ => RD.bl _)) ss_next) ss_next) (ss_seq (ss_if (st_v (se_op (o_cmp _) (se_cb oc_len (sa_cons (se_lc (w' := noX) false (si_seq (se_fld (fld1 in_Numbers.cl n_Numbers_pairs) (se_var 8))) (stk_one (sg_name 11)) (gw_name (by decide)) (st_not (st_v (se_is i_tuple (se_var 11)))) (se_var 11)) sa_nil)) (se_c fun _ => RD.int _))) (ss_seq (ss_ret (se_c fun _ => RD.bl _)) ss_next) ss_next) ss_next))) (ss_seq (ss_set 9 (se_me (fun _ => .nil) (se_var 5) (sa_cons (se_c fun _ => RD.int _) (sa_cons (se_lst false (sa_cons (se_c fun _ => RD.int _) (sa_cons (se_c fun _ => RD.int _) sa_nil))) sa_nil)))) (ss_seq (ss_set 10 (se_me (fun _ => .nil) (se_var 5) (sa_cons (se_c fun _ => RD.int _) (sa_cons (se_lst false (sa_cons (se_c fun _ => RD.int _) (sa_cons (se_c fun _ => RD.int _) sa_nil))) sa_nil)))) (ss_seq (ss_for (si_seq (se_lst false (sa_cons (se_subO (se_var 9) (se_c fun _ => RD.int _)) (sa_cons (se_subO (se_var 10) (se_c fun _ => RD.int _)) (sa_cons (se_subO (se_var 5) (se_cb oc_len (sa_cons (se_var 0) sa_nil))) sa_nil))))) (stk_one (sg_name 11)) (ss_seq (ss_if (st_or (st_not (st_v (se_is i_tuple (se_var 11)))) (st_v (se_op (o_ne) (se_cb oc_len (sa_cons (se_var 11) sa_nil)) (se_c fun _ => RD.int _)))) (ss_seq (ss_ret (se_c fun _ => RD.bl _)) ss_next) ss_next) ss_next)) (ss_seq (ss_ret (se_and (se_op (o_eq) (se_subO (se_var 9) (se_c fun _ => RD.int _)) (se_tup (sa_cons (se_c fun _ => RD.int _) (sa_cons (se_c fun _ => RD.int _) sa_nil)))) (se_and (se_op (o_eq) (se_subO (se_var 10) (se_c fun _ => RD.int _)) (se_tup (sa_cons (se_c fun _ => RD.int _) (sa_cons (se_c fun _ => RD.int _) sa_nil)))) (se_op (o_eq) (se_subO (se_var 5) (se_cb oc_len (sa_cons (se_var 0) sa_nil))) (se_var 1))))) ss_next))))))))))))))⟩
def x__law_unlike_tails : Es := (esSeq (esFor (eiSeq (evLst false (eaCons (evC (.int 3)) (eaCons (evCB gTuple (eaCons (evVar 0) eaNil)) (eaCons (evCB (gList false) (eaCons (evVar 0) eaNil)) (eaCons (evC .non) eaNil)))))) (.one (egName 2)) (esSeq (esIf (etV (evBin (gIsB true) (evBin (gOwnEq false "Numbers" T_any_Numbers r_Numbers___eq__) (evMk "Numbers" 1 1 r_Numbers___init__ (fun ws zs => ws ++ zs) (eaCons (evVar 0) eaNil) (eaCons (evVar 1) eaNil)) (evVar 2)) (evC (.bl false)))) (esSeq (esRet (evC (.bl false))) esNext) esNext) esNext)) (esSeq (esFor (eiSeq (evLst false (eaCons (evLst false (eaCons (evVar 1) (eaCons (evTup (eaCons (evBin (gAdd false) (evBin gIx (evVar 1) (evC (.int 0))) (evC (.int 1))) (eaCons (evBin gIx (evVar 1) (evC (.int 1))) eaNil))) eaNil))) (eaCons (evLst false (eaCons (evVar 1) (eaCons (evTup (eaCons (evBin gIx (evVar 1) (evC (.int 0))) (eaCons (evBin (gMinus) (evBin gIx (evVar 1) (evC (.int 1))) (evC (.int 1))) eaNil))) eaNil))) (eaCons (evLst false (eaCons (evTup (eaCons (evC (.int 1)) (eaCons (evC (.int 0)) eaNil))) (eaCons (evTup (eaCons (evC (.int 1)) (eaCons (evC (.int 1)) eaNil))) eaNil))) (eaCons (evLst false (eaCons (evTup (eaCons (evC (.int 0)) (eaCons (evC (.int 1)) eaNil))) (eaCons (evTup (eaCons (evC (.int 2)) (eaCons (evC (.int 1)) eaNil))) eaNil))) eaNil)))))) (.one (egName 3)) (esSeq (esIf (etV (evBin (gOwnEq false "Numbers" T_any_Numbers r_Numbers___eq__) (evMk "Numbers" 1 1 r_Numbers___init__ (fun ws zs => ws ++ zs) (eaCons (evVar 0) eaNil) (eaCons (evBin gIx (evVar 3) (evC (.int 0))) eaNil)) (evMk "Numbers" 1 1 r_Numbers___init__ (fun ws zs => ws ++ zs) (eaCons (evVar 0) eaNil) (eaCons (evBin gIx (evVar 3) (evC (.int 1))) eaNil)))) (esSeq (esRet (evC (.bl false))) esNext) esNext) esNext)) (esSeq (esRet (evC (.bl true))) esNext)))
abbrev r__law_unlike_tails : G.Run := runF 2 4 x__law_unlike_tails
theorem sc__law_unlike_tails : FnScope ["_law_pairs", "_law_tail", "_law_other", "_law_ends"] ["_law_pairs", "_law_tail"] (defScope (top 45)) := ⟨rfl, rfl, rfl, by decide +kernel, rfl, by decide +kernel, by decide +kernel⟩
theorem ok__law_unlike_tails (KB : K.In base) (GB : base.Ns mainGlobals mg) (c : Says ts fn K) : Def P w K mg base 7 (gAt "_law_unlike_tails" K) ["_law_pairs", "_law_tail"] (spF K r__law_unlike_tails) (All K ["_law_pairs", "_law_tail"]) := by
  obtain ⟨fd, F⟩ := c.def_ 52 (d := d__law_unlike_tails) rfl
  have g_tuple := He.free_ok KB GB (c.test 55 (t := (He.Fa.free "tuple").ok) rfl)
  have g_list := He.free_ok KB GB (c.test 50 (t := (He.Fa.free "list").ok) rfl)
  obtain ⟨fd_Numbers___init__, F_Numbers___init__, B_Numbers___init__, P_Numbers___init__⟩ := (ok_Numbers___init__ (P := P) (w := w) KB GB c).ex
  have mk_Numbers := He.mkr_ok (c.test 78 (t := (He.Fa.mkr "Numbers").ok) rfl)
  obtain ⟨gK_Numbers___init__, K_Numbers___init__⟩ := B_Numbers___init__
  have g_Numbers := He.glo_ok KB GB (c.test 20 (t := (He.Fa.glo "Numbers").ok) rfl)
  obtain ⟨fd_Numbers___eq__, F_Numbers___eq__, B_Numbers___eq__, P_Numbers___eq__⟩ := (ok_Numbers___eq__ (P := P) (w := w) KB GB c).ex
  have eq_Numbers := eqB_ok (c.test 84 (t := eqB "Numbers") rfl)
  have nf_Numbers := nfB_ok (c.test 105 (t := nfB "Numbers" T_any_Numbers) rfl)
  have sc := sc__law_unlike_tails
  refine ⟨fd, fn_ok F sc 4 rfl fun cdv A outer s H E hr => ?_, F.bindsN fun _ _ _ _ _ _ us hl => match us, hl with | [_, _], _ => rfl, F.kp⟩
  exact ⟨_, (pss_cons (ps_for (passes_of rfl) rfl (pi_seq (pi_list (pe_lst (pa_cons pe_int (pa_cons (pe_callTy call_tuple_of rfl g_tuple b_tuple (pa_cons (pv 0) pa_nil)) (pa_cons (pe_callTy call_list_of rfl g_list b_list (pa_cons (pv 0) pa_nil)) (pa_cons pe_non pa_nil)))))) (pi_tup (pe_lst (pa_cons pe_int (pa_cons (pe_callTy call_tuple_of rfl g_tuple b_tuple (pa_cons (pv 0) pa_nil)) (pa_cons (pe_callTy call_list_of rfl g_list b_list (pa_cons (pv 0) pa_nil)) (pa_cons pe_non pa_nil)))))) (pi_str (pe_lst (pa_cons pe_int (pa_cons (pe_callTy call_tuple_of rfl g_tuple b_tuple (pa_cons (pv 0) pa_nil)) (pa_cons (pe_callTy call_list_of rfl g_list b_list (pa_cons (pv 0) pa_nil)) (pa_cons pe_non pa_nil))))))) (pg_name sc.nd (i := 2) rfl loc) (pss_cons (ps_if (pt_cmpR op_notBl (pe_cmpR (op_owneq eq_Numbers F_Numbers___eq__ (hr.mono (by decide)) B_Numbers___eq__ fun _ => passF) (pe_mkS mk_Numbers F_Numbers___init__ (hr.mono (by decide)) rfl g_Numbers K_Numbers___init__ (fun σ => passAt (takes_of rfl rfl rfl rfl) σ) (pa_cons (pv 0) pa_nil) (pk_cons (pv 1) pk_nil)) (pv 2) (nomark _)) pe_bl (nomark _)) (pss_cons (ps_ret pe_bl) pss_nil) pss_nil) pss_nil)) (pss_cons (ps_for (passes_of rfl) rfl (pi_seq (pi_list (pe_lst (pa_cons (pe_lst (pa_cons (pv 1) (pa_cons (pe_tup (pa_cons (pe_op op_plus (pe_ix ix_seq (pv 1) pe_int (fun _ _ => rfl)) pe_int) (pa_cons (pe_ix ix_seq (pv 1) pe_int (fun _ _ => rfl)) pa_nil))) pa_nil))) (pa_cons (pe_lst (pa_cons (pv 1) (pa_cons (pe_tup (pa_cons (pe_ix ix_seq (pv 1) pe_int (fun _ _ => rfl)) (pa_cons (pe_op op_sub (pe_ix ix_seq (pv 1) pe_int (fun _ _ => rfl)) pe_int) pa_nil))) pa_nil))) (pa_cons (pe_lst (pa_cons (pe_tup (pa_cons pe_int (pa_cons pe_int pa_nil))) (pa_cons (pe_tup (pa_cons pe_int (pa_cons pe_int pa_nil))) pa_nil))) (pa_cons (pe_lst (pa_cons (pe_tup (pa_cons pe_int (pa_cons pe_int pa_nil))) (pa_cons (pe_tup (pa_cons pe_int (pa_cons pe_int pa_nil))) pa_nil))) pa_nil)))))) (pi_tup (pe_lst (pa_cons (pe_lst (pa_cons (pv 1) (pa_cons (pe_tup (pa_cons (pe_op op_plus (pe_ix ix_seq (pv 1) pe_int (fun _ _ => rfl)) pe_int) (pa_cons (pe_ix ix_seq (pv 1) pe_int (fun _ _ => rfl)) pa_nil))) pa_nil))) (pa_cons (pe_lst (pa_cons (pv 1) (pa_cons (pe_tup (pa_cons (pe_ix ix_seq (pv 1) pe_int (fun _ _ => rfl)) (pa_cons (pe_op op_sub (pe_ix ix_seq (pv 1) pe_int (fun _ _ => rfl)) pe_int) pa_nil))) pa_nil))) (pa_cons (pe_lst (pa_cons (pe_tup (pa_cons pe_int (pa_cons pe_int pa_nil))) (pa_cons (pe_tup (pa_cons pe_int (pa_cons pe_int pa_nil))) pa_nil))) (pa_cons (pe_lst (pa_cons (pe_tup (pa_cons pe_int (pa_cons pe_int pa_nil))) (pa_cons (pe_tup (pa_cons pe_int (pa_cons pe_int pa_nil))) pa_nil))) pa_nil)))))) (pi_str (pe_lst (pa_cons (pe_lst (pa_cons (pv 1) (pa_cons (pe_tup (pa_cons (pe_op op_plus (pe_ix ix_seq (pv 1) pe_int (fun _ _ => rfl)) pe_int) (pa_cons (pe_ix ix_seq (pv 1) pe_int (fun _ _ => rfl)) pa_nil))) pa_nil))) (pa_cons (pe_lst (pa_cons (pv 1) (pa_cons (pe_tup (pa_cons (pe_ix ix_seq (pv 1) pe_int (fun _ _ => rfl)) (pa_cons (pe_op op_sub (pe_ix ix_seq (pv 1) pe_int (fun _ _ => rfl)) pe_int) pa_nil))) pa_nil))) (pa_cons (pe_lst (pa_cons (pe_tup (pa_cons pe_int (pa_cons pe_int pa_nil))) (pa_cons (pe_tup (pa_cons pe_int (pa_cons pe_int pa_nil))) pa_nil))) (pa_cons (pe_lst (pa_cons (pe_tup (pa_cons pe_int (pa_cons pe_int pa_nil))) (pa_cons (pe_tup (pa_cons pe_int (pa_cons pe_int pa_nil))) pa_nil))) pa_nil))))))) (pg_name sc.nd (i := 3) rfl loc) (pss_cons (ps_if (pt_cmpR (op_owneq eq_Numbers F_Numbers___eq__ (hr.mono (by decide)) B_Numbers___eq__ fun _ => passF) (pe_mkS mk_Numbers F_Numbers___init__ (hr.mono (by decide)) rfl g_Numbers K_Numbers___init__ (fun σ => passAt (takes_of rfl rfl rfl rfl) σ) (pa_cons (pv 0) pa_nil) (pk_cons (pe_ix ix_seq (pv 3) pe_int (fun _ _ => rfl)) pk_nil)) (pe_mkS mk_Numbers F_Numbers___init__ (hr.mono (by decide)) rfl g_Numbers K_Numbers___init__ (fun σ => passAt (takes_of rfl rfl rfl rfl) σ) (pa_cons (pv 0) pa_nil) (pk_cons (pe_ix ix_seq (pv 3) pe_int (fun _ _ => rfl)) pk_nil)) (nomark _)) (pss_cons (ps_ret pe_bl) pss_nil) pss_nil) pss_nil)) (pss_cons (ps_ret pe_bl) pss_nil))),
    (ss_seq (ss_for (si_seq (se_lst false (sa_cons (se_c fun _ => RD.int _) (sa_cons (se_cb oc_tuple (sa_cons (se_var 0) sa_nil)) (sa_cons (se_cb (oc_list false) (sa_cons (se_var 0) sa_nil)) (sa_cons (se_c fun _ => RD.non) sa_nil)))))) (stk_one (sg_name 2)) (ss_seq (ss_if (st_v (se_op (o_notB) (se_op (o_owneq nf_Numbers) (se_mk put1 (sa_cons (se_var 0) sa_nil) (sa_cons (se_var 1) sa_nil)) (se_var 2)) (se_c fun _ => RD.bl _))) (ss_seq (ss_ret (se_c fun _ => RD.bl _)) ss_next) ss_next) ss_next)) (ss_seq (ss_for (si_seq (se_lst false (sa_cons (se_lst false (sa_cons (se_var 1) (sa_cons (se_tup (sa_cons (se_op (o_add false) (se_op o_ix (se_var 1) (se_c fun _ => RD.int _)) (se_c fun _ => RD.int _)) (sa_cons (se_op o_ix (se_var 1) (se_c fun _ => RD.int _)) sa_nil))) sa_nil))) (sa_cons (se_lst false (sa_cons (se_var 1) (sa_cons (se_tup (sa_cons (se_op o_ix (se_var 1) (se_c fun _ => RD.int _)) (sa_cons (se_op (o_sub) (se_op o_ix (se_var 1) (se_c fun _ => RD.int _)) (se_c fun _ => RD.int _)) sa_nil))) sa_nil))) (sa_cons (se_lst false (sa_cons (se_tup (sa_cons (se_c fun _ => RD.int _) (sa_cons (se_c fun _ => RD.int _) sa_nil))) (sa_cons (se_tup (sa_cons (se_c fun _ => RD.int _) (sa_cons (se_c fun _ => RD.int _) sa_nil))) sa_nil))) (sa_cons (se_lst false (sa_cons (se_tup (sa_cons (se_c fun _ => RD.int _) (sa_cons (se_c fun _ => RD.int _) sa_nil))) (sa_cons (se_tup (sa_cons (se_c fun _ => RD.int _) (sa_cons (se_c fun _ => RD.int _) sa_nil))) sa_nil))) sa_nil)))))) (stk_one (sg_name 3)) (ss_seq (ss_if (st_v (se_op (o_owneq nf_Numbers) (se_mk put1 (sa_cons (se_var 0) sa_nil) (sa_cons (se_op o_ix (se_var 3) (se_c fun _ => RD.int _)) sa_nil)) (se_mk put1 (sa_cons (se_var 0) sa_nil) (sa_cons (se_op o_ix (se_var 3) (se_c fun _ => RD.int _)) sa_nil)))) (ss_seq (ss_ret (se_c fun _ => RD.bl _)) ss_next) ss_next) ss_next)) (ss_seq (ss_ret (se_c fun _ => RD.bl _)) ss_next)))⟩
def x__law_dead_right : Es := (esSeq (esAsg (evC .non) (egName 4)) (esSeq (esFor (eiRng2 (eaCons (evC (.int 1)) (eaCons (evBin (gAdd false) (evVar 3) (evC (.int 1))) eaNil))) (.one (egName 5)) (esSeq (esFor (eiRng1 (eaCons (evVar 5) eaNil)) (.one (egName 6)) (esSeq (esIf (etAnd (etV (evBin (gIsN) (evVar 4) (evC .non))) (etV (evBin (gEq) (evCall r__law_sum (eaCons (evVar 1) (eaCons (evVar 2) (eaCons (evVar 6) (eaCons (evBin (gMinus) (evVar 5) (evVar 6)) eaNil))))) (evC (.int 0))))) (esSeq (esAsg (evTup (eaCons (evVar 6) (eaCons (evBin (gMinus) (evVar 5) (evVar 6)) eaNil))) (egName 4)) esNext) esNext) esNext)) esNext)) (esSeq (esRet (evAnd (evBin (gEq) (evMe "Numbers" "dead_pair" r_Numbers_dead_pair [] (evVar 0) (eaCons (evVar 3) eaNil)) (evVar 4)) (evBin (gEq) (evMe "Numbers" "lively_to" r_Numbers_lively_to [] (evVar 0) (eaCons (evVar 3) eaNil)) (evBin (gIsN) (evVar 4) (evC .non))))) esNext)))
abbrev r__law_dead_right : G.Run := runF 4 7 x__law_dead_right
theorem sc__law_dead_right : FnScope ["_law_numbers", "_law_pairs", "_law_tail", "_law_most", "_law_due", "_law_end", "_law_first_here"] ["_law_numbers", "_law_pairs", "_law_tail", "_law_most"] (defScope (top 46)) := ⟨rfl, rfl, rfl, by decide +kernel, rfl, by decide +kernel, by decide +kernel⟩
theorem ok__law_dead_right (KB : K.In base) (GB : base.Ns mainGlobals mg) (c : Says ts fn K) : Def P w K mg base 9 (gAt "_law_dead_right" K) ["_law_numbers", "_law_pairs", "_law_tail", "_law_most"] (spF K r__law_dead_right) (All K ["_law_numbers", "_law_pairs", "_law_tail", "_law_most"]) := by
  obtain ⟨fd, F⟩ := c.def_ 53 (d := d__law_dead_right) rfl
  have g_range := He.free_ok KB GB (c.test 53 (t := (He.Fa.free "range").ok) rfl)
  obtain ⟨fd__law_sum, F__law_sum, B__law_sum, P__law_sum⟩ := (ok__law_sum (P := P) (w := w) KB GB c).ex
  have g__law_sum := He.glo_ok KB GB (c.test 28 (t := (He.Fa.glo "_law_sum").ok) rfl)
  obtain ⟨fd_Numbers_dead_pair, F_Numbers_dead_pair, B_Numbers_dead_pair, P_Numbers_dead_pair⟩ := (ok_Numbers_dead_pair (P := P) (w := w) KB GB c).ex
  have in_Numbers := insB_ok (c.test 77 (t := insB "Numbers") rfl)
  have mt_Numbers_dead_pair := He.meth_ok (c.test 94 (t := (He.Fa.meth "Numbers" "dead_pair").ok) rfl)
  obtain ⟨fd_Numbers_lively_to, F_Numbers_lively_to, B_Numbers_lively_to, P_Numbers_lively_to⟩ := (ok_Numbers_lively_to (P := P) (w := w) KB GB c).ex
  have mt_Numbers_lively_to := He.meth_ok (c.test 95 (t := (He.Fa.meth "Numbers" "lively_to").ok) rfl)
  have sc := sc__law_dead_right
  refine ⟨fd, fn_ok F sc 7 rfl fun cdv A outer s H E hr => ?_, F.bindsN fun _ _ _ _ _ _ us hl => match us, hl with | [_, _, _, _], _ => rfl, F.kp⟩
  exact ⟨_, (pss_cons (ps_set (i := 4) sc.nd rfl loc pe_non) (pss_cons (ps_for (passes_of rfl) rfl (pi_range2 rfl g_range (pa_cons pe_int (pa_cons (pe_op op_plus (pv 3) pe_int) pa_nil))) (pg_name sc.nd (i := 5) rfl loc) (pss_cons (ps_for (passes_of rfl) rfl (pi_range1 rfl g_range (pa_cons (pv 5) pa_nil)) (pg_name sc.nd (i := 6) rfl loc) (pss_cons (ps_if (PW.pt (pw_and (pt_cmpR op_isN (pv 4) pe_non (nomark _)) (pw_and1 (pt_cmpR (op_eqS hr.units) (pe_callS F__law_sum (hr.mono (by decide)) rfl g__law_sum P__law_sum B__law_sum (fun σ => passAt (takes_of rfl rfl rfl rfl) σ) (pa_cons (pv 1) (pa_cons (pv 2) (pa_cons (pv 6) (pa_cons (pe_op op_sub (pv 5) (pv 6)) pa_nil))))) pe_int (nomark _))))) (pss_cons (ps_set (i := 4) sc.nd rfl loc (pe_tup (pa_cons (pv 6) (pa_cons (pe_op op_sub (pv 5) (pv 6)) pa_nil)))) pss_nil) pss_nil) pss_nil)) pss_nil)) (pss_cons (ps_ret (pe_and (pe_cmpR (op_eqS hr.units) (pe_me (pv 0) in_Numbers.cl mt_Numbers_dead_pair F_Numbers_dead_pair (hr.mono (by decide)) B_Numbers_dead_pair .nil (fun σ => passAt (takes_of rfl rfl rfl rfl) σ) (pa_cons (pv 3) pa_nil)) (pv 4) (nomark _)) (pe_one (pe_cmpR (op_eqS hr.units) (pe_me (pv 0) in_Numbers.cl mt_Numbers_lively_to F_Numbers_lively_to (hr.mono (by decide)) B_Numbers_lively_to .nil (fun σ => passAt (takes_of rfl rfl rfl rfl) σ) (pa_cons (pv 3) pa_nil)) (pe_cmpR op_isN (pv 4) pe_non (nomark _)) (nomark _))))) pss_nil))),
    (ss_seq (ss_set 4 (se_c fun _ => RD.non)) (ss_seq (ss_for (si_rng2 (sa_cons (se_c fun _ => RD.int _) (sa_cons (se_op (o_add false) (se_var 3) (se_c fun _ => RD.int _)) sa_nil))) (stk_one (sg_name 5)) (ss_seq (ss_for (si_rng1 (sa_cons (se_var 5) sa_nil)) (stk_one (sg_name 6)) (ss_seq (ss_if (st_and (st_v (se_op (o_isN) (se_var 4) (se_c fun _ => RD.non))) (st_v (se_op (o_eq) (se_call (sa_cons (se_var 1) (sa_cons (se_var 2) (sa_cons (se_var 6) (sa_cons (se_op (o_sub) (se_var 5) (se_var 6)) sa_nil))))) (se_c fun _ => RD.int _)))) (ss_seq (ss_set 4 (se_tup (sa_cons (se_var 6) (sa_cons (se_op (o_sub) (se_var 5) (se_var 6)) sa_nil)))) ss_next) ss_next) ss_next)) ss_next)) (ss_seq (ss_ret (se_and (se_op (o_eq) (se_me (fun _ => .nil) (se_var 0) (sa_cons (se_var 3) sa_nil)) (se_var 4)) (se_op (o_eq) (se_me (fun _ => .nil) (se_var 0) (sa_cons (se_var 3) sa_nil)) (se_op (o_isN) (se_var 4) (se_c fun _ => RD.non))))) ss_next)))⟩
def x_law : Es := (esSeq (esAsg (evCall r__law_draws (eaCons (evVar 0) eaNil)) (egName 1)) (esSeq (esAsg (evLst true eaNil) (egName 2)) (esSeq (esFor (eiRng1 (eaCons (evCall r__law_take (eaCons (evVar 1) (eaCons (evC (.int 7)) eaNil))) eaNil)) (.one (egName 3)) (esSeq (esDrop (evBM isL gAppend (evVar 2) (eaCons (evTup (eaCons (evCall r__law_take (eaCons (evVar 1) (eaCons (evC (.int 4)) eaNil))) (eaCons (evBin (gMinus) (evCall r__law_take (eaCons (evVar 1) (eaCons (evC (.int 11)) eaNil))) (evC (.int 4))) eaNil))) eaNil))) esNext)) (esSeq (esAsg (evTup (eaCons (evBin gIx (evLst false (eaCons (evC (.int 1)) (eaCons (evC (.int 1)) (eaCons (evC (.int 0)) (eaCons (evC (.int 2)) eaNil))))) (evCall r__law_take (eaCons (evVar 1) (eaCons (evC (.int 4)) eaNil)))) (eaCons (evBin (gMinus) (evCall r__law_take (eaCons (evVar 1) (eaCons (evC (.int 5)) eaNil))) (evC (.int 1))) eaNil))) (egName 4)) (esSeq (esIf (etV (evBin (gEq) (evCall r__law_take (eaCons (evVar 1) (eaCons (evC (.int 12)) eaNil))) (evC (.int 5)))) (esSeq (esAsg (evTup (eaCons (evC (.int 1)) (eaCons (evBin (gPow) (evC (.int 10)) (evC (.int 12))) eaNil))) (egName 4)) esNext) esNext) (esSeq (esAsg (evCB (gList false) (eaCons (evVar 2) eaNil)) (egName 5)) (esSeq (esAsg (evMk "Numbers" 1 1 r_Numbers___init__ (fun ws zs => ws ++ zs) (eaCons (evVar 5) eaNil) (eaCons (evVar 4) eaNil)) (egName 6)) (esSeq (esIf (etOr (etV (evBin (gNe) (evVar 5) (evVar 2))) (etAnd (etV (evBin (gEq) (evCall r__law_take (eaCons (evVar 1) (eaCons (evC (.int 4)) eaNil))) (evC (.int 1)))) (etNot (etV (evCall r__law_refusals (eaCons (evVar 2) (eaCons (evVar 6) eaNil))))))) (esSeq (esRet (evC (.bl false))) esNext) esNext) (esSeq (esIf (etOr (etNot (etV (evCall r__law_doors_right (eaCons (evVar 6) eaNil)))) (etOr (etNot (etV (evCall r__law_kept_apart (eaCons (evVar 2) (eaCons (evVar 4) (eaCons (evVar 6) eaNil)))))) (etNot (etV (evCall r__law_unlike_tails (eaCons (evVar 2) (eaCons (evVar 4) eaNil))))))) (esSeq (esRet (evC (.bl false))) esNext) esNext) (esSeq (esAsg (evCall r__law_take (eaCons (evVar 1) (eaCons (evC (.int 6)) eaNil))) (egName 7)) (esSeq (esAsg (evCall r__law_take (eaCons (evVar 1) (eaCons (evC (.int 6)) eaNil))) (egName 8)) (esSeq (esAsg (evCall r__law_take (eaCons (evVar 1) (eaCons (evC (.int 4)) eaNil))) (egName 9)) (esSeq (esAsg (evLc false [11] (eiRng1 (eaCons (evBin (gAdd false) (evBin (gAdd false) (evVar 8) (evVar 9)) (evC (.int 1))) eaNil)) (.one (egName 11)) etYes (evMe "Numbers" "gain" r_Numbers_gain [] (evVar 6) (eaCons (evVar 7) (eaCons (evVar 11) eaNil)))) (egName 10)) (esSeq (esFor (eiRng1 (eaCons (evCB gLen (eaCons (evVar 10) eaNil)) eaNil)) (.one (egName 11)) (esSeq (esIf (etOr (etNot (etV (evCall r__law_int (eaCons (evBin gIx (evVar 10) (evVar 11)) eaNil)))) (etV (evBin (gNe) (evBin gIx (evVar 10) (evVar 11)) (evCall r__law_sum (eaCons (evVar 2) (eaCons (evVar 4) (eaCons (evVar 7) (eaCons (evVar 11) eaNil)))))))) (esSeq (esRet (evC (.bl false))) esNext) esNext) esNext)) (esSeq (esAsg (evC (.int 1)) (egName 12)) (esSeq (esFor (eiRng1 (eaCons (evBin (gAdd false) (evVar 8) (evVar 9)) eaNil)) (.one (egName 11)) (esSeq (esIf (etV (evBin (gNe) (evMe "Numbers" "swaps" r_Numbers_swaps [] (evVar 6) (eaCons (evVar 7) (eaCons (evVar 11) eaNil))) (evVar 12))) (esSeq (esRet (evC (.bl false))) esNext) esNext) (esSeq (esAsg (evBin (gMul false) (evVar 12) (evBin gIx (evCall r__law_at (eaCons (evVar 2) (eaCons (evVar 4) (eaCons (evBin (gAdd false) (evVar 7) (evVar 11)) eaNil)))) (evC (.int 0)))) (egName 12)) esNext))) (esSeq (esAsg (evC (.int 1)) (egName 13)) (esSeq (esFor (eiSeq (evSl false (evVar 10) (eoSome (evC (.int 1))) eoNone)) (.one (egName 14)) (esSeq (esAsg (evBin (gMul false) (evVar 13) (evVar 14)) (egName 13)) esNext)) (esSeq (esIf (etV (evBin (gNe) (evMe "Numbers" "gains" r_Numbers_gains [] (evVar 6) (eaCons (evVar 7) (eaCons (evBin (gAdd false) (evVar 8) (evVar 9)) eaNil))) (evVar 13))) (esSeq (esRet (evC (.bl false))) esNext) esNext) (esSeq (esIf (etV (evBin (gNe) (evBin gIx (evVar 10) (evBin (gAdd false) (evVar 8) (evVar 9))) (evBin (gAdd false) (evBin (gMul false) (evMe "Numbers" "swaps" r_Numbers_swaps [] (evVar 6) (eaCons (evBin (gAdd false) (evVar 7) (evVar 8)) (eaCons (evVar 9) eaNil))) (evBin gIx (evVar 10) (evVar 8))) (evMe "Numbers" "gain" r_Numbers_gain [] (evVar 6) (eaCons (evBin (gAdd false) (evVar 7) (evVar 8)) (eaCons (evVar 9) eaNil)))))) (esSeq (esRet (evC (.bl false))) esNext) esNext) (esSeq (esIf (etV (evBin (gCmp (fun i j => decide (j < i))) (evVar 8) (evC (.int 0)))) (esSeq (esAsg (evBin (gMul false) (evBin gIx (evCall r__law_at (eaCons (evVar 2) (eaCons (evVar 4) (eaCons (evVar 7) eaNil)))) (evC (.int 1))) (evMe "Numbers" "swaps" r_Numbers_swaps [] (evVar 6) (eaCons (evBin (gAdd false) (evVar 7) (evC (.int 1))) (eaCons (evBin (gMinus) (evVar 8) (evC (.int 1))) eaNil)))) (egName 19)) (esSeq (esIf (etV (evBin (gNe) (evBin (gMinus) (evBin gIx (evVar 10) (evVar 8)) (evMe "Numbers" "gain" r_Numbers_gain [] (evVar 6) (eaCons (evBin (gAdd false) (evVar 7) (evC (.int 1))) (eaCons (evBin (gMinus) (evVar 8) (evC (.int 1))) eaNil)))) (evVar 19))) (esSeq (esRet (evC (.bl false))) esNext) esNext) esNext)) esNext) (esSeq (esAsg (evBin (gAdd false) (evVar 7) (evCall r__law_take (eaCons (evVar 1) (eaCons (evC (.int 4)) eaNil)))) (egName 15)) (esSeq (esIf (etNot (etV (evCall r__law_words_right (eaCons (evVar 6) (eaCons (evVar 2) (eaCons (evVar 4) (eaCons (evVar 7) (eaCons (evVar 15) (eaCons (evLst false (eaCons (evCall r__law_word (eaCons (evVar 1) (eaCons (evC (.int 6)) eaNil))) (eaCons (evCall r__law_word (eaCons (evVar 1) (eaCons (evC (.int 5)) eaNil))) eaNil))) eaNil))))))))) (esSeq (esRet (evC (.bl false))) esNext) esNext) (esSeq (esAsg (evBin (gAdd false) (evVar 7) (evCall r__law_take (eaCons (evVar 1) (eaCons (evC (.int 6)) eaNil)))) (egName 16)) (esSeq (esIf (etV (evBin (gNe) (evCall r_first_not_above (eaCons (evVar 6) (eaCons (evVar 7) (eaCons (evVar 16) eaNil)))) (evCall r__law_first (eaCons (evVar 2) (eaCons (evVar 4) (eaCons (evVar 7) (eaCons (evVar 16) (eaCons (evC (.str (PySem.Str.ofString "above"))) eaNil)))))))) (esSeq (esRet (evC (.bl false))) esNext) esNext) (esSeq (esAsg (evCall r__law_first (eaCons (evVar 2) (eaCons (evVar 4) (eaCons (evVar 7) (eaCons (evVar 16) (eaCons (evC (.str (PySem.Str.ofString "0"))) eaNil)))))) (egName 17)) (esSeq (esAsg (evVar 16) (egName 18)) (esSeq (esIf (etV (evBin (gNotN) (evVar 17) (evC .non))) (esSeq (esAsg (evBin (gMinus) (evBin (gAdd false) (evVar 7) (evVar 17)) (evC (.int 1))) (egName 18)) esNext) esNext) (esSeq (esIf (etV (evBin (gNe) (evCall r_last_alive (eaCons (evVar 6) (eaCons (evVar 7) (eaCons (evVar 16) eaNil)))) (evVar 18))) (esSeq (esRet (evC (.bl false))) esNext) esNext) (esSeq (esIf (etNot (etV (evCall r__law_dead_right (eaCons (evVar 6) (eaCons (evVar 2) (eaCons (evVar 4) (eaCons (evVar 16) eaNil))))))) (esSeq (esRet (evC (.bl false))) esNext) esNext) (esSeq (esRet (evCall r__law_changes_right (eaCons (evVar 1) (eaCons (evVar 6) (eaCons (evVar 2) (eaCons (evVar 4) eaNil)))))) esNext)))))))))))))))))))))))))))))))
abbrev r_law : G.Run := runF 1 20 x_law
theorem sc_law : FnScope ["_law_script", "_law_draws_here", "_law_pairs", "_law_n", "_law_tail", "_law_handed", "_law_numbers", "_law_start", "_law_steps", "_law_more", "_law_row", "_law_k", "_law_swaps", "_law_product", "_law_gain", "_law_rank", "_law_most", "_law_dead", "_law_alive", "_law_due"] ["_law_script"] (defScope (top 47)) := ⟨rfl, rfl, rfl, by decide +kernel, rfl, by decide +kernel, by decide +kernel⟩
theorem ok_law (KB : K.In base) (GB : base.Ns mainGlobals mg) (c : Says ts fn K) : Def P w K mg base 11 (gAt "law" K) ["_law_script"] (spF K r_law) (fun fd => All K ["_law_script"] fd ∧ (∀ (s : Shared) (v : Value), BindsTo s fd ⟨[v], []⟩ [("_law_script", v)]) ∧ ∃ oc od osl, K.lookup (gAt "law" K) = some ⟨oc, od, .func fd, osl⟩) := by
  obtain ⟨fd, F⟩ := c.def_ 54 (d := d_law) rfl
  obtain ⟨fd__law_draws, F__law_draws, B__law_draws, P__law_draws⟩ := (ok__law_draws (P := P) (w := w) KB GB c).ex
  have g__law_draws := He.glo_ok KB GB (c.test 23 (t := (He.Fa.glo "_law_draws").ok) rfl)
  obtain ⟨fd__law_take, F__law_take, B__law_take, P__law_take⟩ := (ok__law_take (P := P) (w := w) KB GB c).ex
  have g__law_take := He.glo_ok KB GB (c.test 24 (t := (He.Fa.glo "_law_take").ok) rfl)
  have g_range := He.free_ok KB GB (c.test 53 (t := (He.Fa.free "range").ok) rfl)
  have g_list := He.free_ok KB GB (c.test 50 (t := (He.Fa.free "list").ok) rfl)
  obtain ⟨fd_Numbers___init__, F_Numbers___init__, B_Numbers___init__, P_Numbers___init__⟩ := (ok_Numbers___init__ (P := P) (w := w) KB GB c).ex
  have mk_Numbers := He.mkr_ok (c.test 78 (t := (He.Fa.mkr "Numbers").ok) rfl)
  obtain ⟨gK_Numbers___init__, K_Numbers___init__⟩ := B_Numbers___init__
  have g_Numbers := He.glo_ok KB GB (c.test 20 (t := (He.Fa.glo "Numbers").ok) rfl)
  obtain ⟨fd__law_refusals, F__law_refusals, B__law_refusals, P__law_refusals⟩ := (ok__law_refusals (P := P) (w := w) KB GB c).ex
  have g__law_refusals := He.glo_ok KB GB (c.test 31 (t := (He.Fa.glo "_law_refusals").ok) rfl)
  obtain ⟨fd__law_doors_right, F__law_doors_right, B__law_doors_right, P__law_doors_right⟩ := (ok__law_doors_right (P := P) (w := w) KB GB c).ex
  have g__law_doors_right := He.glo_ok KB GB (c.test 38 (t := (He.Fa.glo "_law_doors_right").ok) rfl)
  obtain ⟨fd__law_kept_apart, F__law_kept_apart, B__law_kept_apart, P__law_kept_apart⟩ := (ok__law_kept_apart (P := P) (w := w) KB GB c).ex
  have g__law_kept_apart := He.glo_ok KB GB (c.test 39 (t := (He.Fa.glo "_law_kept_apart").ok) rfl)
  obtain ⟨fd__law_unlike_tails, F__law_unlike_tails, B__law_unlike_tails, P__law_unlike_tails⟩ := (ok__law_unlike_tails (P := P) (w := w) KB GB c).ex
  have g__law_unlike_tails := He.glo_ok KB GB (c.test 40 (t := (He.Fa.glo "_law_unlike_tails").ok) rfl)
  obtain ⟨fd_Numbers_gain, F_Numbers_gain, B_Numbers_gain, P_Numbers_gain⟩ := (ok_Numbers_gain (P := P) (w := w) KB GB c).ex
  have in_Numbers := insB_ok (c.test 77 (t := insB "Numbers") rfl)
  have mt_Numbers_gain := He.meth_ok (c.test 87 (t := (He.Fa.meth "Numbers" "gain").ok) rfl)
  have g_len := He.free_ok KB GB (c.test 49 (t := (He.Fa.free "len").ok) rfl)
  obtain ⟨fd__law_int, F__law_int, B__law_int, P__law_int⟩ := (ok__law_int (P := P) (w := w) KB GB c).ex
  have g__law_int := He.glo_ok KB GB (c.test 25 (t := (He.Fa.glo "_law_int").ok) rfl)
  obtain ⟨fd__law_sum, F__law_sum, B__law_sum, P__law_sum⟩ := (ok__law_sum (P := P) (w := w) KB GB c).ex
  have g__law_sum := He.glo_ok KB GB (c.test 28 (t := (He.Fa.glo "_law_sum").ok) rfl)
  obtain ⟨fd_Numbers_swaps, F_Numbers_swaps, B_Numbers_swaps, P_Numbers_swaps⟩ := (ok_Numbers_swaps (P := P) (w := w) KB GB c).ex
  have mt_Numbers_swaps := He.meth_ok (c.test 89 (t := (He.Fa.meth "Numbers" "swaps").ok) rfl)
  obtain ⟨fd__law_at, F__law_at, B__law_at, P__law_at⟩ := (ok__law_at (P := P) (w := w) KB GB c).ex
  have g__law_at := He.glo_ok KB GB (c.test 27 (t := (He.Fa.glo "_law_at").ok) rfl)
  obtain ⟨fd_Numbers_gains, F_Numbers_gains, B_Numbers_gains, P_Numbers_gains⟩ := (ok_Numbers_gains (P := P) (w := w) KB GB c).ex
  have mt_Numbers_gains := He.meth_ok (c.test 88 (t := (He.Fa.meth "Numbers" "gains").ok) rfl)
  obtain ⟨fd__law_word, F__law_word, B__law_word, P__law_word⟩ := (ok__law_word (P := P) (w := w) KB GB c).ex
  have g__law_word := He.glo_ok KB GB (c.test 26 (t := (He.Fa.glo "_law_word").ok) rfl)
  obtain ⟨fd__law_words_right, F__law_words_right, B__law_words_right, P__law_words_right⟩ := (ok__law_words_right (P := P) (w := w) KB GB c).ex
  have g__law_words_right := He.glo_ok KB GB (c.test 33 (t := (He.Fa.glo "_law_words_right").ok) rfl)
  obtain ⟨fd_first_not_above, F_first_not_above, B_first_not_above, P_first_not_above⟩ := (ok_first_not_above (P := P) (w := w) KB GB c).ex
  have g_first_not_above := He.glo_ok KB GB (c.test 22 (t := (He.Fa.glo "first_not_above").ok) rfl)
  obtain ⟨fd__law_first, F__law_first, B__law_first, P__law_first⟩ := (ok__law_first (P := P) (w := w) KB GB c).ex
  have g__law_first := He.glo_ok KB GB (c.test 32 (t := (He.Fa.glo "_law_first").ok) rfl)
  obtain ⟨fd_last_alive, F_last_alive, B_last_alive, P_last_alive⟩ := (ok_last_alive (P := P) (w := w) KB GB c).ex
  have g_last_alive := He.glo_ok KB GB (c.test 21 (t := (He.Fa.glo "last_alive").ok) rfl)
  obtain ⟨fd__law_dead_right, F__law_dead_right, B__law_dead_right, P__law_dead_right⟩ := (ok__law_dead_right (P := P) (w := w) KB GB c).ex
  have g__law_dead_right := He.glo_ok KB GB (c.test 41 (t := (He.Fa.glo "_law_dead_right").ok) rfl)
  obtain ⟨fd__law_changes_right, F__law_changes_right, B__law_changes_right, P__law_changes_right⟩ := (ok__law_changes_right (P := P) (w := w) KB GB c).ex
  have g__law_changes_right := He.glo_ok KB GB (c.test 35 (t := (He.Fa.glo "_law_changes_right").ok) rfl)
  have sc := sc_law
  refine ⟨fd, fn_ok F sc 20 rfl fun cdv A outer s H E hr => ?_, ⟨F.bindsN fun _ _ _ _ _ _ us hl => match us, hl with | [_], _ => rfl, fun s v => FunD.bindsA (ps := ["_law_script"]) F (fun _ _ _ _ _ _ us hl => match us, hl with | [_], _ => rfl) s [v] rfl, by obtain ⟨oc, od, dV, kV, doc, pm, an, cdv, ct, osl, _, lk, _⟩ := F.ex; exact ⟨oc, od, osl, lk⟩⟩, F.kp⟩
  exact ⟨_, (pss_cons (ps_set (i := 1) sc.nd rfl loc (pe_callS F__law_draws (hr.mono (by decide)) rfl g__law_draws P__law_draws B__law_draws (fun σ => passAt (takes_of rfl rfl rfl rfl) σ) (pa_cons (pv 0) pa_nil))) (pss_cons (ps_set (i := 2) sc.nd rfl loc (pe_lst pa_nil)) (pss_cons (ps_for (passes_of rfl) rfl (pi_range1 rfl g_range (pa_cons (pe_callS F__law_take (hr.mono (by decide)) rfl g__law_take P__law_take B__law_take (fun σ => passAt (takes_of rfl rfl rfl rfl) σ) (pa_cons (pv 1) (pa_cons pe_int pa_nil))) pa_nil)) (pg_name sc.nd (i := 3) rfl loc) (pss_cons (ps_expr (pe_bm PySem.F.plainAttrs_list PySem.F.slot_list_append PySem.F.type_list_append mt_append (pv 2) (pa_cons (pe_tup (pa_cons (pe_callS F__law_take (hr.mono (by decide)) rfl g__law_take P__law_take B__law_take (fun σ => passAt (takes_of rfl rfl rfl rfl) σ) (pa_cons (pv 1) (pa_cons pe_int pa_nil))) (pa_cons (pe_op op_sub (pe_callS F__law_take (hr.mono (by decide)) rfl g__law_take P__law_take B__law_take (fun σ => passAt (takes_of rfl rfl rfl rfl) σ) (pa_cons (pv 1) (pa_cons pe_int pa_nil))) pe_int) pa_nil))) pa_nil))) pss_nil)) (pss_cons (ps_set (i := 4) sc.nd rfl loc (pe_tup (pa_cons (pe_ix ix_seq (pe_lst (pa_cons pe_int (pa_cons pe_int (pa_cons pe_int (pa_cons pe_int pa_nil))))) (pe_callS F__law_take (hr.mono (by decide)) rfl g__law_take P__law_take B__law_take (fun σ => passAt (takes_of rfl rfl rfl rfl) σ) (pa_cons (pv 1) (pa_cons pe_int pa_nil))) (fun _ _ => rfl)) (pa_cons (pe_op op_sub (pe_callS F__law_take (hr.mono (by decide)) rfl g__law_take P__law_take B__law_take (fun σ => passAt (takes_of rfl rfl rfl rfl) σ) (pa_cons (pv 1) (pa_cons pe_int pa_nil))) pe_int) pa_nil)))) (pss_cons (ps_if (pt_cmpR (op_eqS hr.units) (pe_callS F__law_take (hr.mono (by decide)) rfl g__law_take P__law_take B__law_take (fun σ => passAt (takes_of rfl rfl rfl rfl) σ) (pa_cons (pv 1) (pa_cons pe_int pa_nil))) pe_int (nomark _)) (pss_cons (ps_set (i := 4) sc.nd rfl loc (pe_tup (pa_cons pe_int (pa_cons (pe_op op_pow pe_int pe_int) pa_nil)))) pss_nil) pss_nil) (pss_cons (ps_set (i := 5) sc.nd rfl loc (pe_callTy call_list_of rfl g_list b_list (pa_cons (pv 2) pa_nil))) (pss_cons (ps_set (i := 6) sc.nd rfl loc (pe_mkS mk_Numbers F_Numbers___init__ (hr.mono (by decide)) rfl g_Numbers K_Numbers___init__ (fun σ => passAt (takes_of rfl rfl rfl rfl) σ) (pa_cons (pv 5) pa_nil) (pk_cons (pv 4) pk_nil))) (pss_cons (ps_if (PW.pt (pw_or (pt_cmpR (op_neS hr.units) (pv 5) (pv 2) (nomark _)) (pw_or1 (PW.pt (pw_and (pt_cmpR (op_eqS hr.units) (pe_callS F__law_take (hr.mono (by decide)) rfl g__law_take P__law_take B__law_take (fun σ => passAt (takes_of rfl rfl rfl rfl) σ) (pa_cons (pv 1) (pa_cons pe_int pa_nil))) pe_int (nomark _)) (pw_and1 (pt_not (pt_val (pe_callS F__law_refusals (hr.mono (by decide)) rfl g__law_refusals P__law_refusals B__law_refusals (fun σ => passAt (takes_of rfl rfl rfl rfl) σ) (pa_cons (pv 2) (pa_cons (pv 6) pa_nil))))))))))) (pss_cons (ps_ret pe_bl) pss_nil) pss_nil) (pss_cons (ps_if (PW.pt (pw_or (pt_not (pt_val (pe_callS F__law_doors_right (hr.mono (by decide)) rfl g__law_doors_right P__law_doors_right B__law_doors_right (fun σ => passAt (takes_of rfl rfl rfl rfl) σ) (pa_cons (pv 6) pa_nil)))) (pw_or (pt_not (pt_val (pe_callS F__law_kept_apart (hr.mono (by decide)) rfl g__law_kept_apart P__law_kept_apart B__law_kept_apart (fun σ => passAt (takes_of rfl rfl rfl rfl) σ) (pa_cons (pv 2) (pa_cons (pv 4) (pa_cons (pv 6) pa_nil)))))) (pw_or1 (pt_not (pt_val (pe_callS F__law_unlike_tails (hr.mono (by decide)) rfl g__law_unlike_tails P__law_unlike_tails B__law_unlike_tails (fun σ => passAt (takes_of rfl rfl rfl rfl) σ) (pa_cons (pv 2) (pa_cons (pv 4) pa_nil))))))))) (pss_cons (ps_ret pe_bl) pss_nil) pss_nil) (pss_cons (ps_set (i := 7) sc.nd rfl loc (pe_callS F__law_take (hr.mono (by decide)) rfl g__law_take P__law_take B__law_take (fun σ => passAt (takes_of rfl rfl rfl rfl) σ) (pa_cons (pv 1) (pa_cons pe_int pa_nil)))) (pss_cons (ps_set (i := 8) sc.nd rfl loc (pe_callS F__law_take (hr.mono (by decide)) rfl g__law_take P__law_take B__law_take (fun σ => passAt (takes_of rfl rfl rfl rfl) σ) (pa_cons (pv 1) (pa_cons pe_int pa_nil)))) (pss_cons (ps_set (i := 9) sc.nd rfl loc (pe_callS F__law_take (hr.mono (by decide)) rfl g__law_take P__law_take B__law_take (fun σ => passAt (takes_of rfl rfl rfl rfl) σ) (pa_cons (pv 1) (pa_cons pe_int pa_nil)))) (pss_cons (ps_setLc (i := 10) (own := [("_law_k", 11)]) rfl sc.nd rfl rfl rfl (pi_range1 rfl g_range (pa_cons (pe_op op_plus (pe_op op_plus (pv 8) (pv 9)) pe_int) pa_nil)) (show BlkOk ["_law_script", "_law_draws_here", "_law_pairs", "_law_n", "_law_tail", "_law_handed", "_law_numbers", "_law_start", "_law_steps", "_law_more", "_law_row", "_law_k", "_law_swaps", "_law_product", "_law_gain", "_law_rank", "_law_most", "_law_dead", "_law_alive", "_law_due"] (defScope (top 47)) _ [("_law_k", 11)] from ⟨rfl, by decide +kernel, by decide +kernel, by decide +kernel, by decide +kernel⟩) (fun s H C cl fp => (pg_name sc.nd (i := 11) rfl loc)) (fun s H C cl fp => pts_nil) (fun s H C cl fp => (pe_me (pv 6) in_Numbers.cl mt_Numbers_gain F_Numbers_gain (hr.mono (by decide)) B_Numbers_gain .nil (fun σ => passAt takes0 σ) (pa_cons (pv 7) (pa_cons (pv 11) pa_nil))))) (pss_cons (ps_for (passes_of rfl) rfl (pi_range1 rfl g_range (pa_cons (pe_callB call_len rfl g_len b_len (pa_cons (pv 10) pa_nil)) pa_nil)) (pg_name sc.nd (i := 11) rfl loc) (pss_cons (ps_if (PW.pt (pw_or (pt_not (pt_val (pe_callS F__law_int (hr.mono (by decide)) rfl g__law_int P__law_int B__law_int (fun σ => passAt (takes_of rfl rfl rfl rfl) σ) (pa_cons (pe_ix ix_seq (pv 10) (pv 11) (fun _ _ => rfl)) pa_nil)))) (pw_or1 (pt_cmpR (op_neS hr.units) (pe_ix ix_seq (pv 10) (pv 11) (fun _ _ => rfl)) (pe_callS F__law_sum (hr.mono (by decide)) rfl g__law_sum P__law_sum B__law_sum (fun σ => passAt (takes_of rfl rfl rfl rfl) σ) (pa_cons (pv 2) (pa_cons (pv 4) (pa_cons (pv 7) (pa_cons (pv 11) pa_nil))))) (nomark _))))) (pss_cons (ps_ret pe_bl) pss_nil) pss_nil) pss_nil)) (pss_cons (ps_set (i := 12) sc.nd rfl loc pe_int) (pss_cons (ps_for (passes_of rfl) rfl (pi_range1 rfl g_range (pa_cons (pe_op op_plus (pv 8) (pv 9)) pa_nil)) (pg_name sc.nd (i := 11) rfl loc) (pss_cons (ps_if (pt_cmpR (op_neS hr.units) (pe_me (pv 6) in_Numbers.cl mt_Numbers_swaps F_Numbers_swaps (hr.mono (by decide)) B_Numbers_swaps .nil (fun σ => passAt (takes_of rfl rfl rfl rfl) σ) (pa_cons (pv 7) (pa_cons (pv 11) pa_nil))) (pv 12) (nomark _)) (pss_cons (ps_ret pe_bl) pss_nil) pss_nil) (pss_cons (ps_set (i := 12) sc.nd rfl loc (pe_op op_times (pv 12) (pe_ix ix_seq (pe_callS F__law_at (hr.mono (by decide)) rfl g__law_at P__law_at B__law_at (fun σ => passAt (takes_of rfl rfl rfl rfl) σ) (pa_cons (pv 2) (pa_cons (pv 4) (pa_cons (pe_op op_plus (pv 7) (pv 11)) pa_nil)))) pe_int (fun _ _ => rfl)))) pss_nil))) (pss_cons (ps_set (i := 13) sc.nd rfl loc pe_int) (pss_cons (ps_for (passes_of rfl) rfl (pi_seq (pi_list (pe_slice sl_seq (pv 10) (po_some pe_int) po_none)) (pi_tup (pe_slice sl_seq (pv 10) (po_some pe_int) po_none)) (pi_str (pe_slice sl_seq (pv 10) (po_some pe_int) po_none))) (pg_name sc.nd (i := 14) rfl loc) (pss_cons (ps_set (i := 13) sc.nd rfl loc (pe_op op_times (pv 13) (pv 14))) pss_nil)) (pss_cons (ps_if (pt_cmpR (op_neS hr.units) (pe_me (pv 6) in_Numbers.cl mt_Numbers_gains F_Numbers_gains (hr.mono (by decide)) B_Numbers_gains .nil (fun σ => passAt (takes_of rfl rfl rfl rfl) σ) (pa_cons (pv 7) (pa_cons (pe_op op_plus (pv 8) (pv 9)) pa_nil))) (pv 13) (nomark _)) (pss_cons (ps_ret pe_bl) pss_nil) pss_nil) (pss_cons (ps_if (pt_cmpR (op_neS hr.units) (pe_ix ix_seq (pv 10) (pe_op op_plus (pv 8) (pv 9)) (fun _ _ => rfl)) (pe_op op_plus (pe_op op_times (pe_me (pv 6) in_Numbers.cl mt_Numbers_swaps F_Numbers_swaps (hr.mono (by decide)) B_Numbers_swaps .nil (fun σ => passAt (takes_of rfl rfl rfl rfl) σ) (pa_cons (pe_op op_plus (pv 7) (pv 8)) (pa_cons (pv 9) pa_nil))) (pe_ix ix_seq (pv 10) (pv 8) (fun _ _ => rfl))) (pe_me (pv 6) in_Numbers.cl mt_Numbers_gain F_Numbers_gain (hr.mono (by decide)) B_Numbers_gain .nil (fun σ => passAt (takes_of rfl rfl rfl rfl) σ) (pa_cons (pe_op op_plus (pv 7) (pv 8)) (pa_cons (pv 9) pa_nil)))) (nomark _)) (pss_cons (ps_ret pe_bl) pss_nil) pss_nil) (pss_cons (ps_if (pt_cmpR op_gt (pv 8) pe_int (nomark _)) (pss_cons (ps_set (i := 19) sc.nd rfl loc (pe_op op_times (pe_ix ix_seq (pe_callS F__law_at (hr.mono (by decide)) rfl g__law_at P__law_at B__law_at (fun σ => passAt (takes_of rfl rfl rfl rfl) σ) (pa_cons (pv 2) (pa_cons (pv 4) (pa_cons (pv 7) pa_nil)))) pe_int (fun _ _ => rfl)) (pe_me (pv 6) in_Numbers.cl mt_Numbers_swaps F_Numbers_swaps (hr.mono (by decide)) B_Numbers_swaps .nil (fun σ => passAt (takes_of rfl rfl rfl rfl) σ) (pa_cons (pe_op op_plus (pv 7) pe_int) (pa_cons (pe_op op_sub (pv 8) pe_int) pa_nil))))) (pss_cons (ps_if (pt_cmpR (op_neS hr.units) (pe_op op_sub (pe_ix ix_seq (pv 10) (pv 8) (fun _ _ => rfl)) (pe_me (pv 6) in_Numbers.cl mt_Numbers_gain F_Numbers_gain (hr.mono (by decide)) B_Numbers_gain .nil (fun σ => passAt (takes_of rfl rfl rfl rfl) σ) (pa_cons (pe_op op_plus (pv 7) pe_int) (pa_cons (pe_op op_sub (pv 8) pe_int) pa_nil)))) (pv 19) (nomark _)) (pss_cons (ps_ret pe_bl) pss_nil) pss_nil) pss_nil)) pss_nil) (pss_cons (ps_set (i := 15) sc.nd rfl loc (pe_op op_plus (pv 7) (pe_callS F__law_take (hr.mono (by decide)) rfl g__law_take P__law_take B__law_take (fun σ => passAt (takes_of rfl rfl rfl rfl) σ) (pa_cons (pv 1) (pa_cons pe_int pa_nil))))) (pss_cons (ps_if (pt_not (pt_val (pe_callS F__law_words_right (hr.mono (by decide)) rfl g__law_words_right P__law_words_right B__law_words_right (fun σ => passAt (takes_of rfl rfl rfl rfl) σ) (pa_cons (pv 6) (pa_cons (pv 2) (pa_cons (pv 4) (pa_cons (pv 7) (pa_cons (pv 15) (pa_cons (pe_lst (pa_cons (pe_callS F__law_word (hr.mono (by decide)) rfl g__law_word P__law_word B__law_word (fun σ => passAt (takes_of rfl rfl rfl rfl) σ) (pa_cons (pv 1) (pa_cons pe_int pa_nil))) (pa_cons (pe_callS F__law_word (hr.mono (by decide)) rfl g__law_word P__law_word B__law_word (fun σ => passAt (takes_of rfl rfl rfl rfl) σ) (pa_cons (pv 1) (pa_cons pe_int pa_nil))) pa_nil))) pa_nil))))))))) (pss_cons (ps_ret pe_bl) pss_nil) pss_nil) (pss_cons (ps_set (i := 16) sc.nd rfl loc (pe_op op_plus (pv 7) (pe_callS F__law_take (hr.mono (by decide)) rfl g__law_take P__law_take B__law_take (fun σ => passAt (takes_of rfl rfl rfl rfl) σ) (pa_cons (pv 1) (pa_cons pe_int pa_nil))))) (pss_cons (ps_if (pt_cmpR (op_neS hr.units) (pe_callS F_first_not_above (hr.mono (by decide)) rfl g_first_not_above P_first_not_above B_first_not_above (fun σ => passAt (takes_of rfl rfl rfl rfl) σ) (pa_cons (pv 6) (pa_cons (pv 7) (pa_cons (pv 16) pa_nil)))) (pe_callS F__law_first (hr.mono (by decide)) rfl g__law_first P__law_first B__law_first (fun σ => passAt (takes_of rfl rfl rfl rfl) σ) (pa_cons (pv 2) (pa_cons (pv 4) (pa_cons (pv 7) (pa_cons (pv 16) (pa_cons pe_str pa_nil)))))) (nomark _)) (pss_cons (ps_ret pe_bl) pss_nil) pss_nil) (pss_cons (ps_set (i := 17) sc.nd rfl loc (pe_callS F__law_first (hr.mono (by decide)) rfl g__law_first P__law_first B__law_first (fun σ => passAt (takes_of rfl rfl rfl rfl) σ) (pa_cons (pv 2) (pa_cons (pv 4) (pa_cons (pv 7) (pa_cons (pv 16) (pa_cons pe_str pa_nil))))))) (pss_cons (ps_set (i := 18) sc.nd rfl loc (pv 16)) (pss_cons (ps_if (pt_cmpR op_notN (pv 17) pe_non (nomark _)) (pss_cons (ps_set (i := 18) sc.nd rfl loc (pe_op op_sub (pe_op op_plus (pv 7) (pv 17)) pe_int)) pss_nil) pss_nil) (pss_cons (ps_if (pt_cmpR (op_neS hr.units) (pe_callS F_last_alive (hr.mono (by decide)) rfl g_last_alive P_last_alive B_last_alive (fun σ => passAt (takes_of rfl rfl rfl rfl) σ) (pa_cons (pv 6) (pa_cons (pv 7) (pa_cons (pv 16) pa_nil)))) (pv 18) (nomark _)) (pss_cons (ps_ret pe_bl) pss_nil) pss_nil) (pss_cons (ps_if (pt_not (pt_val (pe_callS F__law_dead_right (hr.mono (by decide)) rfl g__law_dead_right P__law_dead_right B__law_dead_right (fun σ => passAt (takes_of rfl rfl rfl rfl) σ) (pa_cons (pv 6) (pa_cons (pv 2) (pa_cons (pv 4) (pa_cons (pv 16) pa_nil))))))) (pss_cons (ps_ret pe_bl) pss_nil) pss_nil) (pss_cons (ps_ret (pe_callS F__law_changes_right (hr.mono (by decide)) rfl g__law_changes_right P__law_changes_right B__law_changes_right (fun σ => passAt (takes_of rfl rfl rfl rfl) σ) (pa_cons (pv 1) (pa_cons (pv 6) (pa_cons (pv 2) (pa_cons (pv 4) pa_nil)))))) pss_nil))))))))))))))))))))))))))))))),
    (ss_seq (ss_set 1 (se_call (sa_cons (se_var 0) sa_nil))) (ss_seq (ss_set 2 (se_lst true sa_nil)) (ss_seq (ss_for (si_rng1 (sa_cons (se_call (sa_cons (se_var 1) (sa_cons (se_c fun _ => RD.int _) sa_nil))) sa_nil)) (stk_one (sg_name 3)) (ss_seq (ss_drop (se_bm ty_list om_append (se_var 2) (sa_cons (se_tup (sa_cons (se_call (sa_cons (se_var 1) (sa_cons (se_c fun _ => RD.int _) sa_nil))) (sa_cons (se_op (o_sub) (se_call (sa_cons (se_var 1) (sa_cons (se_c fun _ => RD.int _) sa_nil))) (se_c fun _ => RD.int _)) sa_nil))) sa_nil))) ss_next)) (ss_seq (ss_set 4 (se_tup (sa_cons (se_op o_ix (se_lst false (sa_cons (se_c fun _ => RD.int _) (sa_cons (se_c fun _ => RD.int _) (sa_cons (se_c fun _ => RD.int _) (sa_cons (se_c fun _ => RD.int _) sa_nil))))) (se_call (sa_cons (se_var 1) (sa_cons (se_c fun _ => RD.int _) sa_nil)))) (sa_cons (se_op (o_sub) (se_call (sa_cons (se_var 1) (sa_cons (se_c fun _ => RD.int _) sa_nil))) (se_c fun _ => RD.int _)) sa_nil)))) (ss_seq (ss_if (st_v (se_op (o_eq) (se_call (sa_cons (se_var 1) (sa_cons (se_c fun _ => RD.int _) sa_nil))) (se_c fun _ => RD.int _))) (ss_seq (ss_set 4 (se_tup (sa_cons (se_c fun _ => RD.int _) (sa_cons (se_op (o_pow) (se_c fun _ => RD.int _) (se_c fun _ => RD.int _)) sa_nil)))) ss_next) ss_next) (ss_seq (ss_set 5 (se_cb (oc_list false) (sa_cons (se_var 2) sa_nil))) (ss_seq (ss_set 6 (se_mk put1 (sa_cons (se_var 5) sa_nil) (sa_cons (se_var 4) sa_nil))) (ss_seq (ss_if (st_or (st_v (se_op (o_ne) (se_var 5) (se_var 2))) (st_and (st_v (se_op (o_eq) (se_call (sa_cons (se_var 1) (sa_cons (se_c fun _ => RD.int _) sa_nil))) (se_c fun _ => RD.int _))) (st_not (st_v (se_call (sa_cons (se_var 2) (sa_cons (se_var 6) sa_nil))))))) (ss_seq (ss_ret (se_c fun _ => RD.bl _)) ss_next) ss_next) (ss_seq (ss_if (st_or (st_not (st_v (se_call (sa_cons (se_var 6) sa_nil)))) (st_or (st_not (st_v (se_call (sa_cons (se_var 2) (sa_cons (se_var 4) (sa_cons (se_var 6) sa_nil)))))) (st_not (st_v (se_call (sa_cons (se_var 2) (sa_cons (se_var 4) sa_nil))))))) (ss_seq (ss_ret (se_c fun _ => RD.bl _)) ss_next) ss_next) (ss_seq (ss_set 7 (se_call (sa_cons (se_var 1) (sa_cons (se_c fun _ => RD.int _) sa_nil)))) (ss_seq (ss_set 8 (se_call (sa_cons (se_var 1) (sa_cons (se_c fun _ => RD.int _) sa_nil)))) (ss_seq (ss_set 9 (se_call (sa_cons (se_var 1) (sa_cons (se_c fun _ => RD.int _) sa_nil)))) (ss_seq (ss_set 10 (se_lc (w' := noX) false (si_rng1 (sa_cons (se_op (o_add false) (se_op (o_add false) (se_var 8) (se_var 9)) (se_c fun _ => RD.int _)) sa_nil)) (stk_one (sg_name 11)) (gw_name (by decide)) etyes (se_me (fun _ => .nil) (se_var 6) (sa_cons (se_var 7) (sa_cons (se_var 11) sa_nil))))) (ss_seq (ss_for (si_rng1 (sa_cons (se_cb oc_len (sa_cons (se_var 10) sa_nil)) sa_nil)) (stk_one (sg_name 11)) (ss_seq (ss_if (st_or (st_not (st_v (se_call (sa_cons (se_op o_ix (se_var 10) (se_var 11)) sa_nil)))) (st_v (se_op (o_ne) (se_op o_ix (se_var 10) (se_var 11)) (se_call (sa_cons (se_var 2) (sa_cons (se_var 4) (sa_cons (se_var 7) (sa_cons (se_var 11) sa_nil)))))))) (ss_seq (ss_ret (se_c fun _ => RD.bl _)) ss_next) ss_next) ss_next)) (ss_seq (ss_set 12 (se_c fun _ => RD.int _)) (ss_seq (ss_for (si_rng1 (sa_cons (se_op (o_add false) (se_var 8) (se_var 9)) sa_nil)) (stk_one (sg_name 11)) (ss_seq (ss_if (st_v (se_op (o_ne) (se_me (fun _ => .nil) (se_var 6) (sa_cons (se_var 7) (sa_cons (se_var 11) sa_nil))) (se_var 12))) (ss_seq (ss_ret (se_c fun _ => RD.bl _)) ss_next) ss_next) (ss_seq (ss_set 12 (se_op (o_mul false) (se_var 12) (se_op o_ix (se_call (sa_cons (se_var 2) (sa_cons (se_var 4) (sa_cons (se_op (o_add false) (se_var 7) (se_var 11)) sa_nil)))) (se_c fun _ => RD.int _)))) ss_next))) (ss_seq (ss_set 13 (se_c fun _ => RD.int _)) (ss_seq (ss_for (si_seq (se_sl false (se_var 10) (so_some (se_c fun _ => RD.int _)) so_none)) (stk_one (sg_name 14)) (ss_seq (ss_set 13 (se_op (o_mul false) (se_var 13) (se_var 14))) ss_next)) (ss_seq (ss_if (st_v (se_op (o_ne) (se_me (fun _ => .nil) (se_var 6) (sa_cons (se_var 7) (sa_cons (se_op (o_add false) (se_var 8) (se_var 9)) sa_nil))) (se_var 13))) (ss_seq (ss_ret (se_c fun _ => RD.bl _)) ss_next) ss_next) (ss_seq (ss_if (st_v (se_op (o_ne) (se_op o_ix (se_var 10) (se_op (o_add false) (se_var 8) (se_var 9))) (se_op (o_add false) (se_op (o_mul false) (se_me (fun _ => .nil) (se_var 6) (sa_cons (se_op (o_add false) (se_var 7) (se_var 8)) (sa_cons (se_var 9) sa_nil))) (se_op o_ix (se_var 10) (se_var 8))) (se_me (fun _ => .nil) (se_var 6) (sa_cons (se_op (o_add false) (se_var 7) (se_var 8)) (sa_cons (se_var 9) sa_nil)))))) (ss_seq (ss_ret (se_c fun _ => RD.bl _)) ss_next) ss_next) (ss_seq (ss_if (st_v (se_op (o_cmp _) (se_var 8) (se_c fun _ => RD.int _))) (ss_seq (ss_set 19 (se_op (o_mul false) (se_op o_ix (se_call (sa_cons (se_var 2) (sa_cons (se_var 4) (sa_cons (se_var 7) sa_nil)))) (se_c fun _ => RD.int _)) (se_me (fun _ => .nil) (se_var 6) (sa_cons (se_op (o_add false) (se_var 7) (se_c fun _ => RD.int _)) (sa_cons (se_op (o_sub) (se_var 8) (se_c fun _ => RD.int _)) sa_nil))))) (ss_seq (ss_if (st_v (se_op (o_ne) (se_op (o_sub) (se_op o_ix (se_var 10) (se_var 8)) (se_me (fun _ => .nil) (se_var 6) (sa_cons (se_op (o_add false) (se_var 7) (se_c fun _ => RD.int _)) (sa_cons (se_op (o_sub) (se_var 8) (se_c fun _ => RD.int _)) sa_nil)))) (se_var 19))) (ss_seq (ss_ret (se_c fun _ => RD.bl _)) ss_next) ss_next) ss_next)) ss_next) (ss_seq (ss_set 15 (se_op (o_add false) (se_var 7) (se_call (sa_cons (se_var 1) (sa_cons (se_c fun _ => RD.int _) sa_nil))))) (ss_seq (ss_if (st_not (st_v (se_call (sa_cons (se_var 6) (sa_cons (se_var 2) (sa_cons (se_var 4) (sa_cons (se_var 7) (sa_cons (se_var 15) (sa_cons (se_lst false (sa_cons (se_call (sa_cons (se_var 1) (sa_cons (se_c fun _ => RD.int _) sa_nil))) (sa_cons (se_call (sa_cons (se_var 1) (sa_cons (se_c fun _ => RD.int _) sa_nil))) sa_nil))) sa_nil))))))))) (ss_seq (ss_ret (se_c fun _ => RD.bl _)) ss_next) ss_next) (ss_seq (ss_set 16 (se_op (o_add false) (se_var 7) (se_call (sa_cons (se_var 1) (sa_cons (se_c fun _ => RD.int _) sa_nil))))) (ss_seq (ss_if (st_v (se_op (o_ne) (se_call (sa_cons (se_var 6) (sa_cons (se_var 7) (sa_cons (se_var 16) sa_nil)))) (se_call (sa_cons (se_var 2) (sa_cons (se_var 4) (sa_cons (se_var 7) (sa_cons (se_var 16) (sa_cons (se_c fun _ => RD.str _) sa_nil)))))))) (ss_seq (ss_ret (se_c fun _ => RD.bl _)) ss_next) ss_next) (ss_seq (ss_set 17 (se_call (sa_cons (se_var 2) (sa_cons (se_var 4) (sa_cons (se_var 7) (sa_cons (se_var 16) (sa_cons (se_c fun _ => RD.str _) sa_nil))))))) (ss_seq (ss_set 18 (se_var 16)) (ss_seq (ss_if (st_v (se_op (o_notN) (se_var 17) (se_c fun _ => RD.non))) (ss_seq (ss_set 18 (se_op (o_sub) (se_op (o_add false) (se_var 7) (se_var 17)) (se_c fun _ => RD.int _))) ss_next) ss_next) (ss_seq (ss_if (st_v (se_op (o_ne) (se_call (sa_cons (se_var 6) (sa_cons (se_var 7) (sa_cons (se_var 16) sa_nil)))) (se_var 18))) (ss_seq (ss_ret (se_c fun _ => RD.bl _)) ss_next) ss_next) (ss_seq (ss_if (st_not (st_v (se_call (sa_cons (se_var 6) (sa_cons (se_var 2) (sa_cons (se_var 4) (sa_cons (se_var 16) sa_nil))))))) (ss_seq (ss_ret (se_c fun _ => RD.bl _)) ss_next) ss_next) (ss_seq (ss_ret (se_call (sa_cons (se_var 1) (sa_cons (se_var 6) (sa_cons (se_var 2) (sa_cons (se_var 4) sa_nil)))))) ss_next)))))))))))))))))))))))))))))))⟩
end
end HT

set_option linter.all false
set_option Elab.async false
/-! M0: the numbers of k09, by themselves. -/
namespace HT
def atP (ps : List (Int × Int)) (tl : Int × Int) (n : Nat) : Int × Int := ps[n]?.getD tl
section
variable (a : Nat → Int × Int)
/-- the gain -/
def gnA (s : Nat) : Nat → Int
  | 0 => 0
  | n + 1 => (a (s + n)).1 * gnA s n + (a (s + n)).2
/-- the product of the first numbers -/
def swA (s : Nat) : Nat → Int
  | 0 => 1
  | n + 1 => swA s n * (a (s + n)).1
/-- the product of the gains -/
def gsA (s : Nat) : Nat → Int
  | 0 => 1
  | n + 1 => gsA s n * gnA a s (n + 1)
/-- a term of the closed sum, and the sum of the first terms -/
def inA (j : Nat) : Nat → Int
  | 0 => (a j).2
  | i + 1 => inA j i * (a (j + 1 + i)).1
def outA (s n : Nat) : Nat → Int
  | 0 => 0
  | m + 1 => outA s n m + inA a (s + m) (n - 1 - m)
theorem out_more (s n : Nat) : ∀ m, m ≤ n → outA a s (n + 1) m = (a (s + n)).1 * outA a s n m := by
  intro m
  induction m with
  | zero => intro _; simp [outA]
  | succ m ih =>
    intro h
    have e : n + 1 - 1 - m = (n - 1 - m) + 1 := by omega
    have e2 : s + m + 1 + (n - 1 - m) = s + n := by omega
    rw [outA, outA, ih (by omega), e, inA, e2]
    grind
theorem out_eq (s : Nat) : ∀ n, outA a s n n = gnA a s n := by
  intro n
  induction n with
  | zero => rfl
  | succ n ih =>
    have e : n + 1 - 1 - n = 0 := by omega
    rw [outA, out_more a s n n (Nat.le_refl n), ih, e, inA, gnA]
theorem gn_split (s n : Nat) : ∀ m, gnA a s (n + m) = swA a (s + n) m * gnA a s n + gnA a (s + n) m := by
  intro m
  induction m with
  | zero => simp [swA, gnA]
  | succ m ih =>
    rw [← Nat.add_assoc, gnA, ih, swA, gnA, ← Nat.add_assoc]
    grind
theorem gn_first (s n : Nat) : gnA a s (n + 1) - gnA a (s + 1) n = (a s).2 * swA a (s + 1) n := by
  have e := gn_split a s 1 n
  have e2 : gnA a s 1 = (a s).2 := by simp [gnA]
  rw [Nat.add_comm n 1, e, e2]
  grind
/-- words: true for up -/
def riseA : List Bool → Int
  | [] => 0
  | true :: w => 1 + riseA w
  | false :: w => riseA w - 1
def dwn (s : Nat) (h : Int) : Int := if h > (s : Int) then gnA a s (h - s).toNat else 0
def vlA (s : Nat) : Int → Int → List Bool → Int
  | _, v, [] => v
  | h, v, true :: w => vlA s (h + 1) v w
  | h, v, false :: w => vlA s (h - 1) (v * dwn a s h) w
theorem vl_lin (s : Nat) : ∀ (w : List Bool) (h v : Int), vlA a s h v w = v * vlA a s h 1 w := by
  intro w
  induction w with
  | nil => intro h v; simp [vlA]
  | cons b w ih =>
    intro h v
    cases b with
    | true => rw [vlA, vlA, ih]
    | false => rw [vlA, vlA, ih, ih (h - 1) (1 * dwn a s h)]; grind
theorem vl_app (s : Nat) : ∀ (w u : List Bool) (h v : Int), vlA a s h v (w ++ u) = vlA a s (h + riseA w) (vlA a s h v w) u := by
  intro w
  induction w with
  | nil => intro u h v; simp [vlA, riseA]
  | cons b w ih =>
    intro u h v
    cases b with
    | true => rw [List.cons_append, vlA, vlA, ih, riseA, Int.add_assoc]
    | false =>
      rw [List.cons_append, vlA, vlA, ih, riseA]
      have e : h - 1 + riseA w = h + (riseA w - 1) := by omega
      rw [e]
theorem vl_zero (s : Nat) (w : List Bool) (h : Int) : vlA a s h 0 w = 0 := by rw [vl_lin]; simp
theorem vl_dip (s : Nat) : ∀ (w : List Bool) (h v : Int), (s : Int) ≤ h → h + riseA w < (s : Int) → vlA a s h v w = 0 := by
  intro w
  induction w with
  | nil => intro h v h1 h2; simp [riseA] at h2; omega
  | cons b w ih =>
    intro h v h1 h2
    cases b with
    | true => rw [vlA]; rw [riseA] at h2; exact ih (h + 1) v (by omega) (by omega)
    | false =>
      rw [vlA]
      rw [riseA] at h2
      by_cases q : h > (s : Int)
      · exact ih (h - 1) _ (by omega) (by omega)
      · rw [dwn, if_neg q, Int.mul_zero, vl_zero]
/-- the first number of steps at which the gain is such -/
def fUp (p : Int → Bool) (s : Nat) : Nat → Option Nat
  | 0 => none
  | n + 1 => match fUp p s n with
    | some k => some k
    | none => if p (gnA a s (n + 1)) = true then some (n + 1) else none
theorem fUp_mono {p : Int → Bool} {s n k : Nat} (h : fUp a p s n = some k) : ∀ d, fUp a p s (n + d) = some k := by
  intro d
  induction d with
  | zero => exact h
  | succ d ih => rw [← Nat.add_assoc, fUp, ih]
theorem fUp_hit {p : Int → Bool} {s n m : Nat} (h : fUp a p s n = none) (q : p (gnA a s (n + 1)) = true) (hm : n < m) : fUp a p s m = some (n + 1) := by
  have e : fUp a p s (n + 1) = some (n + 1) := by rw [fUp, h]; simp [q]
  obtain ⟨d, rfl⟩ : ∃ d, m = n + 1 + d := ⟨m - (n + 1), by omega⟩
  exact fUp_mono a e d
theorem fUp_miss {p : Int → Bool} {s n : Nat} (h : fUp a p s n = none) (q : p (gnA a s (n + 1)) = false) : fUp a p s (n + 1) = none := by
  rw [fUp, h]; simp [q]
theorem fUp_congr {p p' : Int → Bool} (h : ∀ i, p i = p' i) (s n : Nat) : fUp a p s n = fUp a p' s n := by
  have e : p = p' := funext h
  rw [e]
/-- the gains that end at rank n -/
def rowA (n : Nat) : List Int := (List.range n).map fun st => gnA a st (n - st)
theorem row_more (n : Nat) : rowA a (n + 1) = ((rowA a n).map fun one => (a n).1 * one + (a n).2) ++ [(a n).2] := by
  unfold rowA
  rw [List.range_succ, List.map_append, List.map_map]
  congr 1
  · refine List.map_congr_left fun st hs => ?_
    have hs : st < n := List.mem_range.mp hs
    have e : n + 1 - st = (n - st) + 1 := by omega
    have e2 : st + (n - st) = n := by omega
    show gnA a st (n + 1 - st) = (a n).1 * gnA a st (n - st) + (a n).2
    rw [e, gnA, e2]
  · have e : n + 1 - n = 0 + 1 := by omega
    show [gnA a n (n + 1 - n)] = [(a n).2]
    rw [e, gnA, gnA]
    simp
/-- the first of the zeros among the first m of the gains that end at rank n -/
def fzA (n : Nat) : Nat → Option Nat
  | 0 => none
  | m + 1 => match fzA n m with
    | some k => some k
    | none => if gnA a m (n - m) = 0 then some m else none
def dUp : Nat → Option (Nat × Nat)
  | 0 => none
  | n + 1 => match dUp n with
    | some p => some p
    | none => (fzA a (n + 1) (n + 1)).map fun st => (st, n + 1 - st)
theorem dUp_mono {n : Nat} {p : Nat × Nat} (h : dUp a n = some p) : ∀ d, dUp a (n + d) = some p := by
  intro d
  induction d with
  | zero => exact h
  | succ d ih => rw [← Nat.add_assoc, dUp, ih]
theorem dUp_hit {n m st : Nat} (h : dUp a n = none) (q : fzA a (n + 1) (n + 1) = some st) (hm : n < m) : dUp a m = some (st, n + 1 - st) := by
  have e : dUp a (n + 1) = some (st, n + 1 - st) := by rw [dUp, h]; simp [q]
  obtain ⟨d, rfl⟩ : ∃ d, m = n + 1 + d := ⟨m - (n + 1), by omega⟩
  exact dUp_mono a e d
theorem dUp_miss {n : Nat} (h : dUp a n = none) (q : fzA a (n + 1) (n + 1) = none) : dUp a (n + 1) = none := by
  rw [dUp, h]; simp [q]
/-- where a zero stands first -/
def fz0 : List Int → Option Nat
  | [] => none
  | x :: xs => if x = 0 then some 0 else (fz0 xs).map (· + 1)
theorem fz0_app : ∀ (xs : List Int) (y : Int), fz0 (xs ++ [y]) = match fz0 xs with
    | some k => some k
    | none => if y = 0 then some xs.length else none := by
  intro xs
  induction xs with
  | nil => intro y; simp only [List.nil_append, fz0, List.length_nil, Option.map_none]
  | cons x xs ih =>
    intro y
    rw [List.cons_append, fz0, fz0, ih]
    by_cases q : x = 0
    · simp [q]
    · simp only [if_neg q]
      cases fz0 xs with
      | some k => rfl
      | none => by_cases z : y = 0 <;> simp [z]
theorem fz_row (n : Nat) : ∀ m, fz0 ((List.range m).map fun st => gnA a st (n - st)) = fzA a n m := by
  intro m
  induction m with
  | zero => rfl
  | succ m ih =>
    rw [List.range_succ, List.map_append, List.map_cons, List.map_nil, fz0_app, ih, fzA]
    simp
theorem fz_rowA (n : Nat) : fz0 (rowA a n) = fzA a n n := fz_row a n n
theorem fz0_none : ∀ {xs : List Int}, fz0 xs = none → ∀ x ∈ xs, x ≠ 0 := by
  intro xs
  induction xs with
  | nil => intro _ x h; cases h
  | cons y xs ih =>
    intro h x hx
    rw [fz0] at h
    by_cases q : y = 0
    · rw [if_pos q] at h; cases h
    · rw [if_neg q] at h
      have h2 : fz0 xs = none := by simpa using h
      rcases List.mem_cons.mp hx with z | z
      · rw [z]; exact q
      · exact ih h2 x z
/-! sizes -/
def Sz (e : Nat) (i : Int) : Prop := i.natAbs < 2 ^ e
theorem Sz.mono {e f : Nat} {i : Int} (h : Sz e i) (l : e ≤ f) : Sz f i := Nat.lt_of_lt_of_le h (Nat.pow_le_pow_right (by omega) l)
theorem Sz.mul {e f : Nat} {i j : Int} (h : Sz e i) (k : Sz f j) : Sz (e + f) (i * j) := by
  unfold Sz at *
  rw [Int.natAbs_mul, Nat.pow_add]
  exact Nat.mul_lt_mul'' h k
theorem Sz.add {e : Nat} {i j : Int} (h : Sz e i) (k : Sz e j) : Sz (e + 1) (i + j) := by
  unfold Sz at *
  have := Int.natAbs_add_le i j
  rw [Nat.pow_succ]
  omega
def Bd : Prop := ∀ n, Sz 41 (a n).1 ∧ Sz 41 (a n).2
theorem gn_sz (b : Bd a) (s : Nat) : ∀ n, Sz (41 + 42 * n) (gnA a s n) := by
  intro n
  induction n with
  | zero => rw [gnA]; unfold Sz; simp; 
  | succ n ih =>
    rw [gnA]
    have h1 := Sz.mul (b (s + n)).1 ih
    have h2 : Sz (41 + (41 + 42 * n)) (a (s + n)).2 := (b (s + n)).2.mono (by omega)
    exact (Sz.add h1 h2).mono (by omega)
theorem sw_sz (b : Bd a) (s : Nat) : ∀ n, Sz (1 + 41 * n) (swA a s n) := by
  intro n
  induction n with
  | zero => rw [swA]; unfold Sz; decide
  | succ n ih => rw [swA]; exact (Sz.mul ih (b (s + n)).1).mono (by omega)
theorem gs_sz (b : Bd a) (s : Nat) : ∀ n, Sz (1 + n * (41 + 42 * n)) (gsA a s n) := by
  intro n
  induction n with
  | zero => rw [gsA]; unfold Sz; decide
  | succ n ih =>
    rw [gsA]
    refine (Sz.mul ih (gn_sz a b s (n + 1))).mono ?_
    have : n * (41 + 42 * n) ≤ n * (41 + 42 * (n + 1)) := Nat.mul_le_mul_left _ (by omega)
    rw [Nat.add_mul]
    omega
theorem in_sz (b : Bd a) (j : Nat) : ∀ n, Sz (41 + 41 * n) (inA a j n) := by
  intro n
  induction n with
  | zero => rw [inA]; exact (b j).2.mono (by omega)
  | succ n ih => rw [inA]; exact (Sz.mul ih (b _).1).mono (by omega)
end
/-! pairs told -/
def trimN (ps : List (Int × Int)) (tl : Int × Int) : Nat → Nat
  | 0 => 0
  | n + 1 => if ps[n]? = some tl then trimN ps tl n else n + 1
def trim (ps : List (Int × Int)) (tl : Int × Int) : List (Int × Int) := ps.take (trimN ps tl ps.length)
theorem trimN_le (ps : List (Int × Int)) (tl : Int × Int) : ∀ n, trimN ps tl n ≤ n := by
  intro n
  induction n with
  | zero => exact Nat.le_refl 0
  | succ n ih =>
    rw [trimN]
    by_cases q : ps[n]? = some tl
    · rw [if_pos q]; omega
    · rw [if_neg q]; exact Nat.le_refl _
theorem trimN_tl (ps : List (Int × Int)) (tl : Int × Int) : ∀ n i, trimN ps tl n ≤ i → i < n → ps[i]? = some tl := by
  intro n
  induction n with
  | zero => intro i _ h; omega
  | succ n ih =>
    intro i h1 h2
    rw [trimN] at h1
    by_cases q : ps[n]? = some tl
    · rw [if_pos q] at h1
      by_cases z : i = n
      · rw [z]; exact q
      · exact ih i h1 (by omega)
    · rw [if_neg q] at h1; omega
theorem trimN_end (ps : List (Int × Int)) (tl : Int × Int) : ∀ n m, trimN ps tl n = m + 1 → ps[m]? ≠ some tl := by
  intro n
  induction n with
  | zero => intro m h; cases h
  | succ n ih =>
    intro m h
    rw [trimN] at h
    by_cases q : ps[n]? = some tl
    · rw [if_pos q] at h; exact ih m h
    · rw [if_neg q] at h
      have e : n = m := by omega
      rw [← e]; exact q
theorem trim_len (ps : List (Int × Int)) (tl : Int × Int) : (trim ps tl).length = trimN ps tl ps.length := by
  unfold trim
  rw [List.length_take]
  have := trimN_le ps tl ps.length
  omega
theorem atP_trim (ps : List (Int × Int)) (tl : Int × Int) (n : Nat) : atP (trim ps tl) tl n = atP ps tl n := by
  unfold atP trim
  by_cases q : n < trimN ps tl ps.length
  · rw [List.getElem?_take_of_lt q]
  · rw [List.getElem?_eq_none (by rw [List.length_take]; omega)]
    by_cases z : n < ps.length
    · rw [trimN_tl ps tl ps.length n (by omega) z]; rfl
    · rw [List.getElem?_eq_none (by omega)]
theorem atP_trim' (ps : List (Int × Int)) (tl : Int × Int) : atP (trim ps tl) tl = atP ps tl := funext (atP_trim ps tl)
theorem trim_last (ps : List (Int × Int)) (tl : Int × Int) {m : Nat} (h : (trim ps tl).length = m + 1) : atP (trim ps tl) tl m ≠ tl := by
  intro e
  rw [trim_len] at h
  have q := trimN_end ps tl ps.length m h
  have l := trimN_le ps tl ps.length
  rw [atP_trim] at e
  unfold atP at e
  rw [List.getElem?_eq_getElem (by omega)] at e q
  exact q (congrArg some e)
theorem trim_eq {ps ps' : List (Int × Int)} {tl : Int × Int} (h : ∀ n, atP ps tl n = atP ps' tl n) : trim ps tl = trim ps' tl := by
  have far : ∀ (qs : List (Int × Int)) n, qs.length ≤ n → atP qs tl n = tl := fun qs n l => by unfold atP; rw [List.getElem?_eq_none l]; rfl
  have h2 : ∀ n, atP (trim ps tl) tl n = atP (trim ps' tl) tl n := fun n => by rw [atP_trim, atP_trim, h]
  have len : (trim ps tl).length = (trim ps' tl).length := by
    rcases Nat.lt_trichotomy (trim ps tl).length (trim ps' tl).length with z | z | z
    · exfalso
      obtain ⟨m, e⟩ : ∃ m, (trim ps' tl).length = m + 1 := ⟨(trim ps' tl).length - 1, by omega⟩
      exact trim_last ps' tl e (by rw [← h2 m]; exact far _ _ (by omega))
    · exact z
    · exfalso
      obtain ⟨m, e⟩ : ∃ m, (trim ps tl).length = m + 1 := ⟨(trim ps tl).length - 1, by omega⟩
      exact trim_last ps tl e (by rw [h2 m]; exact far _ _ (by omega))
  refine List.ext_getElem len fun n h1 h3 => ?_
  have := h2 n
  unfold atP at this
  rw [List.getElem?_eq_getElem h1, List.getElem?_eq_getElem h3] at this
  exact this
theorem trim_iff {ps ps' : List (Int × Int)} {tl : Int × Int} : trim ps tl = trim ps' tl ↔ ∀ n, atP ps tl n = atP ps' tl n :=
  ⟨fun h n => by rw [← atP_trim ps, ← atP_trim ps', h], trim_eq⟩
theorem trim_nil (tl : Int × Int) : trim [] tl = [] := rfl
/-- one last pair that is the tail dropped, as often as told -/
def popT (tl : Int × Int) (l : List (Int × Int)) : List (Int × Int) := if l.getLast? = some tl then l.dropLast else l
def popK (tl : Int × Int) (l : List (Int × Int)) : Nat → List (Int × Int)
  | 0 => l
  | k + 1 => popT tl (popK tl l k)
theorem popT_take (ps : List (Int × Int)) (tl : Int × Int) (m : Nat) (h : m ≤ ps.length) : popT tl (ps.take m) = ps.take (match m with
    | 0 => 0
    | n + 1 => if ps[n]? = some tl then n else n + 1) := by
  unfold popT
  cases m with
  | zero => simp
  | succ n =>
    have e : (ps.take (n + 1)).getLast? = ps[n]? := by
      rw [List.getLast?_eq_getElem?, List.length_take, Nat.min_eq_left h, Nat.add_sub_cancel, List.getElem?_take_of_lt (by omega)]
    rw [e]
    by_cases q : ps[n]? = some tl
    · rw [if_pos q]
      simp only [if_pos q]
      rw [List.dropLast_eq_take, List.length_take, Nat.min_eq_left h, Nat.add_sub_cancel, List.take_take, Nat.min_eq_left (by omega)]
    · rw [if_neg q]
      simp only [if_neg q]
theorem popK_take (ps : List (Int × Int)) (tl : Int × Int) : ∀ k, ∃ m, popK tl ps k = ps.take m ∧ m ≤ ps.length ∧ (∀ i, m ≤ i → i < ps.length → ps[i]? = some tl) ∧ (m = 0 ∨ m + k = ps.length ∨ ∃ n, m = n + 1 ∧ ps[n]? ≠ some tl) := by
  intro k
  induction k with
  | zero => exact ⟨ps.length, by rw [popK, List.take_length], Nat.le_refl _, fun i h1 h2 => by omega, by omega⟩
  | succ k ih =>
    obtain ⟨m, e, l, f, c⟩ := ih
    rw [popK, e, popT_take ps tl m l]
    cases m with
    | zero => exact ⟨0, rfl, by omega, f, .inl rfl⟩
    | succ n =>
      by_cases q : ps[n]? = some tl
      · refine ⟨n, by simp only [if_pos q], by omega, fun i h1 h2 => ?_, ?_⟩
        · by_cases z : i = n
          · rw [z]; exact q
          · exact f i (by omega) h2
        · rcases c with c | c | ⟨n', c1, c2⟩
          · omega
          · right; left; omega
          · have : n' = n := by omega
            subst this; exact absurd q c2
      · exact ⟨n + 1, by simp only [if_neg q], l, f, .inr (.inr ⟨n, rfl, q⟩)⟩
theorem trimN_uniq (ps : List (Int × Int)) (tl : Int × Int) : ∀ n m, m ≤ n → (∀ i, m ≤ i → i < n → ps[i]? = some tl) → (m = 0 ∨ ∃ k, m = k + 1 ∧ ps[k]? ≠ some tl) → trimN ps tl n = m := by
  intro n
  induction n with
  | zero => intro m h _ _; rw [trimN]; omega
  | succ n ih =>
    intro m h f c
    rw [trimN]
    by_cases z : m = n + 1
    · subst z
      rcases c with c | ⟨k, c1, c2⟩
      · omega
      · have : k = n := by omega
        subst this; rw [if_neg c2]
    · rw [if_pos (f n (by omega) (by omega))]
      exact ih m (by omega) (fun i h1 h2 => f i h1 (by omega)) c
theorem popK_trim (ps : List (Int × Int)) (tl : Int × Int) : popK tl ps ps.length = trim ps tl := by
  obtain ⟨m, e, l, f, c⟩ := popK_take ps tl ps.length
  rw [e]
  unfold trim
  have c2 : m = 0 ∨ ∃ k, m = k + 1 ∧ ps[k]? ≠ some tl := by
    rcases c with c | c | c
    · exact .inl c
    · exact .inl (by omega)
    · exact .inr c
  rw [trimN_uniq ps tl ps.length m l f c2]
end HT

set_option maxRecDepth 100000
set_option linter.all false
set_option Elab.async false
/-! A1: reading the evaluators: what a run of statements ends in. -/
namespace HT
open PySem G

/-- what a run of statements ends in: P of the slots and cells where it goes on, Q where it ends the call -/
def Out0 (P : G.Env → Hs → Prop) (Q : RS → Prop) (r : RS) : Prop := match r with
  | .nx ρ S => P ρ S
  | .rt w S => Q (.rt w S)
  | .exc c fs ρ S => Q (.exc c fs ρ S)
  | _ => False
structure Out (P : G.Env → Hs → Prop) (Q : RS → Prop) (r : RS) : Prop where
  o : Out0 P Q r

section
variable {P : G.Env → Hs → Prop} {Q : RS → Prop} {ρ ρ1 : G.Env} {S S1 S2 S3 : Hs} {x y z : W} {ws us : List W} {c d : Bool}
theorem seq_nx {a b : Es} (h : a ρ S = .nx ρ1 S1) : esSeq a b ρ S = b ρ1 S1 := by
  unfold esSeq
  rw [h]
theorem drop_ok {a : Ev} (h : a ρ S = .ok x S1) : esDrop a ρ S = .nx ρ S1 := by
  unfold esDrop
  rw [h]
  rfl
theorem asg_ok {a : Ev} {i : Nat} (h : a ρ S = .ok x S1) : esAsg a (egName i) ρ S = .nx (ρ.set i (some x)) S1 := by
  unfold esAsg
  rw [h]
  rfl
theorem ret_ok {a : Ev} {b : Es} (h : a ρ S = .ok x S1) : esSeq (esRet a) b ρ S = .rt x S1 := by
  unfold esSeq esRet
  rw [h]
  rfl
theorem o_next (h : P ρ S) : Out P Q (esNext ρ S) := ⟨h⟩
theorem o_seq {a b : Es} (h : Out (fun ρ S => Out P Q (b ρ S)) Q (a ρ S)) : Out P Q (esSeq a b ρ S) := by
  unfold esSeq
  cases e : a ρ S <;> rw [e] at h <;> first | exact h.o | exact ⟨h.o⟩ | exact h.o.elim
theorem o_asg {a : Ev} {b : Es} {i : Nat} (h : a ρ S = .ok x S1) (k : Out P Q (b (ρ.set i (some x)) S1)) : Out P Q (esSeq (esAsg a (egName i)) b ρ S) := by
  rw [seq_nx (asg_ok h)]; exact k
theorem o_asg2 {a : Ev} {b : Es} {i j : Nat} {d1 d2 : G.D} (h : a ρ S = .ok (.val (.tup [d1, d2])) S1) (k : Out P Q (b ((ρ.set i (some (.val d1))).set j (some (.val d2))) S1)) :
    Out P Q (esSeq (esAsg a (egTup 2 (egCons (egName i) (egCons (egName j) egNil)))) b ρ S) := by
  have e : esAsg a (egTup 2 (egCons (egName i) (egCons (egName j) egNil))) ρ S = .nx ((ρ.set i (some (.val d1))).set j (some (.val d2))) S1 := by
    unfold esAsg
    rw [h]
    rfl
  rw [seq_nx e]; exact k
theorem o_drop {a : Ev} {b : Es} (h : a ρ S = .ok x S1) (k : Out P Q (b ρ S1)) : Out P Q (esSeq (esDrop a) b ρ S) := by
  rw [seq_nx (drop_ok h)]; exact k
theorem o_ret {a : Ev} {b : Es} (h : a ρ S = .ok x S1) (k : Q (.rt x S1)) : Out P Q (esSeq (esRet a) b ρ S) := by
  rw [ret_ok h]; exact ⟨k⟩
theorem o_aug {a : Ev} {b : Es} {g : W → W → Hs → G.R W} {i : Nat} (h0 : ρ[i]? = some (some x)) (h : a ρ S = .ok y S1) (hg : g x y S1 = .ok z S2) (k : Out P Q (b (ρ.set i (some z)) S2)) : Out P Q (esSeq (esAug i g a) b ρ S) := by
  have e : esAug i g a ρ S = .nx (ρ.set i (some z)) S2 := by
    unfold esAug
    rw [h0]
    dsimp only
    rw [h]
    dsimp only [G.R.thenS]
    rw [hg]
  rw [seq_nx e]; exact k
theorem o_if {t : Et} {a1 a2 b : Es} (h : t ρ S = .ok c S1) (kt : c = true → Out (fun ρ S => Out P Q (b ρ S)) Q (a1 ρ S1)) (kf : c = false → Out (fun ρ S => Out P Q (b ρ S)) Q (a2 ρ S1)) : Out P Q (esSeq (esIf t a1 a2) b ρ S) := by
  refine o_seq ?_
  unfold esIf
  rw [h]
  dsimp only [G.R.thenS]
  cases c with
  | true => exact kt rfl
  | false => exact kf rfl
theorem o_ifT {t : Et} {a1 a2 b : Es} (h : t ρ S = .ok true S1) (kt : Out (fun ρ S => Out P Q (b ρ S)) Q (a1 ρ S1)) : Out P Q (esSeq (esIf t a1 a2) b ρ S) := o_if h (fun _ => kt) (fun e => by cases e)
theorem o_ifF {t : Et} {a1 a2 b : Es} (h : t ρ S = .ok false S1) (kf : Out (fun ρ S => Out P Q (b ρ S)) Q (a2 ρ S1)) : Out P Q (esSeq (esIf t a1 a2) b ρ S) := o_if h (fun e => by cases e) (fun _ => kf)
/-- a check that fails nowhere -/
theorem o_pass {t : Et} {a1 b : Es} (h : t ρ S = .ok false S1) (kf : Out P Q (b ρ S1)) : Out P Q (esSeq (esIf t a1 esNext) b ρ S) := o_ifF h (o_next kf)
theorem o_raise {e : Str} {np : Nat} {fl : List (Str × Nat)} {a : Ea} {b : Es} {ds : List G.D} {fs : List (Str × G.D)} (h : a ρ S = .ok ws S1) (hv : vals? ws = some ds) (hk : kept fl ds [] = some fs) (hl : ws.length = np ∧ np ≤ 900) (k : Q (.exc e fs ρ S1)) :
    Out P Q (esSeq (esRaise e np fl a) b ρ S) := by
  refine o_seq ?_
  unfold esRaise
  rw [h]
  dsimp only [G.R.thenS]
  rw [hv]
  dsimp only
  rw [hk]
  dsimp only
  rw [if_pos hl]
  exact ⟨k⟩
/-! tests -/
theorem t_v {a : Ev} (h : a ρ S = .ok (.val (.bl c)) S1) : etV a ρ S = .ok c S1 := by
  unfold etV
  rw [h]
  rfl
theorem t_not {t : Et} (h : t ρ S = .ok c S1) : etNot t ρ S = .ok (!c) S1 := by
  unfold etNot
  rw [h]
  rfl
theorem t_and {t u : Et} (h : t ρ S = .ok c S) (h2 : c = true → u ρ S = .ok d S) : etAnd t u ρ S = .ok (c && d) S := by
  unfold etAnd
  rw [h]
  dsimp only [G.R.bind]
  cases c with
  | true => rw [if_pos rfl, h2 rfl]; rfl
  | false => rfl
theorem t_or {t u : Et} (h : t ρ S = .ok c S) (h2 : c = false → u ρ S = .ok d S) : etOr t u ρ S = .ok (c || d) S := by
  unfold etOr
  rw [h]
  dsimp only [G.R.bind]
  cases c with
  | true => rfl
  | false => rw [if_neg Bool.false_ne_true, h2 rfl]; rfl
theorem t_andF {t u : Et} (h : t ρ S = .ok false S1) : etAnd t u ρ S = .ok false S1 := by
  unfold etAnd
  rw [h]
  rfl
theorem t_andT {t u : Et} (h : t ρ S = .ok true S1) (h2 : u ρ S1 = .ok d S2) : etAnd t u ρ S = .ok d S2 := by
  unfold etAnd
  rw [h]
  dsimp only [G.R.bind]
  rw [if_pos rfl, h2]
theorem t_orF {t u : Et} (h : t ρ S = .ok false S1) (h2 : u ρ S1 = .ok d S2) : etOr t u ρ S = .ok d S2 := by
  unfold etOr
  rw [h]
  dsimp only [G.R.bind]
  rw [if_neg Bool.false_ne_true, h2]
/-! expressions -/
theorem e_bin {g : W → W → Hs → G.R W} {a b : Ev} {r : G.R W} (ha : a ρ S = .ok x S1) (hb : b ρ S1 = .ok y S2) (hg : g x y S2 = r) : evBin g a b ρ S = r := by
  unfold evBin
  rw [ha]
  dsimp only [G.R.bind]
  rw [hb]
  exact hg
theorem e_un {g : W → Hs → G.R W} {a : Ev} {r : G.R W} (ha : a ρ S = .ok x S1) (hg : g x S1 = r) : evUn g a ρ S = r := by
  unfold evUn
  rw [ha]
  exact hg
theorem a_cons {a : Ev} {b : Ea} (ha : a ρ S = .ok x S1) (hb : b ρ S1 = .ok us S2) : eaCons a b ρ S = .ok (x :: us) S2 := by
  unfold eaCons
  rw [ha]
  dsimp only [G.R.bind]
  rw [hb]
theorem e_cb {g : List W → Hs → G.R W} {a : Ea} {r : G.R W} (ha : a ρ S = .ok ws S1) (hg : g ws S1 = r) : evCB g a ρ S = r := by
  unfold evCB
  rw [ha]
  exact hg
theorem e_if {t : Et} {a b : Ev} {r : G.R W} (h : t ρ S = .ok c S1) (kt : c = true → a ρ S1 = r) (kf : c = false → b ρ S1 = r) : evIf t a b ρ S = r := by
  unfold evIf
  rw [h]
  dsimp only [G.R.bind]
  cases c with
  | true => exact kt rfl
  | false => exact kf rfl
theorem e_and {a b : Ev} (h : a ρ S = .ok (.val (.bl c)) S) (h2 : c = true → b ρ S = .ok (.val (.bl d)) S) : evAnd a b ρ S = .ok (.val (.bl (c && d))) S := by
  unfold evAnd
  rw [h]
  dsimp only [G.R.bind, asB]
  cases c with
  | true => rw [if_pos rfl, h2 rfl]; rfl
  | false => rfl
theorem e_not {a : Ev} (h : a ρ S = .ok (.val (.bl c)) S1) : evNot a ρ S = .ok (.val (.bl (!c))) S1 := by
  unfold evNot
  rw [h]
  rfl
theorem e_me {k m : Str} {run : G.Run} {dfl : List G.D} {o : Ev} {a : Ea} {fs : List (Str × G.D)} {r : G.R W} (ho : o ρ S = .ok (.val (.obj k fs)) S1) (hf : fs.lookup m = none) (ha : a ρ S1 = .ok ws S2) (hr : callV run (.val (.obj k fs) :: ws ++ dfl.map .val) S2 = r) :
    evMe k m run dfl o a ρ S = r := by
  unfold evMe
  rw [ho]
  dsimp only [G.R.bind]
  rw [if_pos ⟨rfl, hf⟩, ha]
  exact hr
theorem e_sub {k : Str} {run : G.Run} {a b : Ev} {fs : List (Str × G.D)} {r : G.R W} (ha : a ρ S = .ok (.val (.obj k fs)) S1) (hb : b ρ S1 = .ok y S2) (hr : callV run [.val (.obj k fs), y] S2 = r) : evSubO k run a b ρ S = r := by
  unfold evSubO
  refine e_bin ha hb ?_
  dsimp only
  rw [if_pos rfl]
  exact hr
theorem e_mk {k : Str} {n m : Nat} {run : G.Run} {put : List W → List W → List W} {a b : Ea} {r : G.R W} (ha : a ρ S = .ok ws S1) (hb : b ρ S1 = .ok us S2) (hl : ws.length = n ∧ us.length = m) (hr : callV (makeR k run) (put ws us) S2 = r) :
    evMk k n m run put a b ρ S = r := by
  unfold evMk
  rw [ha]
  dsimp only [G.R.bind]
  rw [hb]
  dsimp only [G.R.bind]
  rw [if_pos hl]
  exact hr
/-! loops -/
theorem o_loop {src : Src} {t : Tk} {body : Es} (I : Nat → G.Env → Hs → Prop) (k : Nat)
    (hs : ∀ i ρ S, i < k → I i ρ S → ∃ row ws ρ1 S1, src.nxt i S = .item row ws ∧ t.run row ws ρ S = .nx ρ1 S1 ∧ Out (I (i + 1)) Q (body ρ1 S1))
    (he : ∀ ρ S, I k ρ S → src.nxt k S = .stop ∧ P ρ S) : ∀ j i ρ S, i + j = k → I i ρ S → Out P Q (loopF src t body j i ρ S) := by
  intro j
  induction j with
  | zero =>
    intro i ρ S e h
    have e2 : i = k := by omega
    subst e2
    obtain ⟨h1, h2⟩ := he ρ S h
    unfold loopF
    rw [h1]
    exact ⟨h2⟩
  | succ j ih =>
    intro i ρ S e h
    obtain ⟨row, ws, ρ1, S1, h1, h2, h3⟩ := hs i ρ S (by omega) h
    unfold loopF
    rw [h1]
    dsimp only
    rw [h2]
    dsimp only
    cases e2 : body ρ1 S1 with
    | nx ρ2 S2 => rw [e2] at h3; exact ih (i + 1) ρ2 S2 (by omega) h3.o
    | rt w S2 => rw [e2] at h3; exact ⟨h3.o⟩
    | exc c fs ρ2 S2 => rw [e2] at h3; exact ⟨h3.o⟩
    | ct ρ2 S2 => rw [e2] at h3; exact h3.o.elim
    | bk ρ2 S2 => rw [e2] at h3; exact h3.o.elim
    | no => rw [e2] at h3; exact h3.o.elim
theorem for_src {it : Ei} {t : Tk} {b : Es} {src : Src} (h : it ρ S = .ok src S1) : esFor it t b ρ S = loopF src t b src.bound 0 ρ S1 := by
  unfold esFor
  rw [h]
  rfl
theorem small62 {i : Int} (h0 : -100000 ≤ i) (h : i ≤ 100000) : -(2 ^ 62) ≤ i ∧ i < 2 ^ 62 := by
  have e : (2 : Int) ^ 62 = 4611686018427387904 := by decide
  rw [e]
  omega
theorem src1 (j k : Nat) (h : j = k) : (⟨j, fun i _ => if i < j then .item false [.val (.int (0 + (i : Int)))] else .stop⟩ : Src) = ⟨k, fun i _ => if i < k then .item false [.val (.int (i : Int))] else .stop⟩ := by
  subst h
  congr 1
  funext i S
  rw [Int.zero_add]
theorem src2 (j k s : Nat) (h : j = k) : (⟨j, fun i _ => if i < j then .item false [.val (.int ((s : Int) + (i : Int)))] else .stop⟩ : Src) = ⟨k, fun i _ => if i < k then .item false [.val (.int ((s + i : Nat) : Int))] else .stop⟩ := by
  subst h
  congr 1
theorem smallN {k : Nat} (h : k ≤ 100000) : -(2 ^ 62) ≤ (k : Int) ∧ (k : Int) < 2 ^ 62 := small62 (by omega) (by omega)
theorem rng1_okA {a : Ea} {j : Int} (ha : a ρ S = .ok [.val (.int j)] S1) (h : -(2 ^ 62) ≤ j ∧ j < 2 ^ 62) : eiRng1 a ρ S = .ok ⟨j.toNat, fun i _ => if i < j.toNat then .item false [.val (.int (0 + (i : Int)))] else .stop⟩ S1 := by
  unfold eiRng1
  rw [ha]
  unfold G.R.bind
  show (if -(2 ^ 62) ≤ j ∧ j < 2 ^ 62 then _ else _) = _
  rw [if_pos h]
theorem rng2_okA {a : Ea} {l j : Int} (ha : a ρ S = .ok [.val (.int l), .val (.int j)] S1) (h : -(2 ^ 62) ≤ l ∧ l < 2 ^ 62 ∧ -(2 ^ 62) ≤ j ∧ j < 2 ^ 62) :
    eiRng2 a ρ S = .ok ⟨(j - l).toNat, fun i _ => if i < (j - l).toNat then .item false [.val (.int (l + (i : Int)))] else .stop⟩ S1 := by
  unfold eiRng2
  rw [ha]
  unfold G.R.bind
  show (if -(2 ^ 62) ≤ l ∧ l < 2 ^ 62 ∧ -(2 ^ 62) ≤ j ∧ j < 2 ^ 62 then _ else _) = _
  rw [if_pos h]
theorem rng1_ok {a : Ea} {k : Nat} (ha : a ρ S = .ok [.val (.int (k : Int))] S1) (hk : k ≤ 100000) : eiRng1 a ρ S = .ok ⟨k, fun i _ => if i < k then .item false [.val (.int (i : Int))] else .stop⟩ S1 :=
  (rng1_okA ha (smallN hk)).trans (congrArg (fun s => G.R.ok s S1) (src1 _ k (Int.toNat_natCast k)))
theorem rng2_ok {a : Ea} {s k : Nat} {e : Int} (ha : a ρ S = .ok [.val (.int (s : Int)), .val (.int e)] S1) (hk : (e - (s : Int)).toNat = k) (h1 : s ≤ 100000) (h2 : -100000 ≤ e ∧ e ≤ 100000) :
    eiRng2 a ρ S = .ok ⟨k, fun i _ => if i < k then .item false [.val (.int ((s + i : Nat) : Int))] else .stop⟩ S1 :=
  (rng2_okA ha ⟨(smallN h1).1, (smallN h1).2, (small62 h2.1 h2.2).1, (small62 h2.1 h2.2).2⟩).trans (congrArg (fun s => G.R.ok s S1) (src2 _ k s hk))
theorem o_rngS {v k s : Nat} {body b : Es} {it : Ei} (I : Nat → G.Env → Hs → Prop) (hi : it ρ S = .ok ⟨k, fun i _ => if i < k then .item false [.val (.int ((s + i : Nat) : Int))] else .stop⟩ S1) (h0 : I 0 ρ S1)
    (hs : ∀ i ρ S, i < k → I i ρ S → Out (I (i + 1)) Q (body (ρ.set v (some (.val (.int ((s + i : Nat) : Int))))) S)) (he : ∀ ρ S, I k ρ S → Out P Q (b ρ S)) : Out P Q (esSeq (esFor it (.one (egName v)) body) b ρ S) := by
  refine o_seq ?_
  rw [for_src hi]
  refine o_loop I k (fun i ρ S hk h => ⟨false, _, _, _, if_pos hk, rfl, hs i ρ S hk h⟩) (fun ρ S h => ⟨if_neg (Nat.lt_irrefl k), he ρ S h⟩) k 0 ρ S1 (by omega) h0
theorem o_rng2 {v k s : Nat} {body b : Es} {a : Ea} {e : Int} (I : Nat → G.Env → Hs → Prop) (ha : a ρ S = .ok [.val (.int (s : Int)), .val (.int e)] S1) (hk : (e - (s : Int)).toNat = k) (h1 : s ≤ 100000) (h2 : -100000 ≤ e ∧ e ≤ 100000) (h0 : I 0 ρ S1)
    (hs : ∀ i ρ S, i < k → I i ρ S → Out (I (i + 1)) Q (body (ρ.set v (some (.val (.int ((s + i : Nat) : Int))))) S)) (he : ∀ ρ S, I k ρ S → Out P Q (b ρ S)) : Out P Q (esSeq (esFor (eiRng2 a) (.one (egName v)) body) b ρ S) :=
  o_rngS I (rng2_ok ha hk h1 h2) h0 hs he
theorem o_rng1 {v k : Nat} {body b : Es} {a : Ea} (I : Nat → G.Env → Hs → Prop) (ha : a ρ S = .ok [.val (.int (k : Int))] S1) (hk : k ≤ 100000) (h0 : I 0 ρ S1)
    (hs : ∀ i ρ S, i < k → I i ρ S → Out (I (i + 1)) Q (body (ρ.set v (some (.val (.int (i : Int))))) S)) (he : ∀ ρ S, I k ρ S → Out P Q (b ρ S)) : Out P Q (esSeq (esFor (eiRng1 a) (.one (egName v)) body) b ρ S) := by
  refine o_seq ?_
  rw [for_src (rng1_ok ha hk)]
  refine o_loop I k (fun i ρ S hk h => ⟨false, _, _, _, if_pos hk, rfl, hs i ρ S hk h⟩) (fun ρ S h => ⟨if_neg (Nat.lt_irrefl k), he ρ S h⟩) k 0 ρ S1 (by omega) h0
/-- over the items of a list, a tuple -/
theorem o_each {v : Nat} {body b : Es} {a : Ev} {ws : List W} (I : Nat → G.Env → Hs → Prop) (hi : eiSeq a ρ S = .ok ⟨ws.length, nxSeq x⟩ S1) (h0 : I 0 ρ S1) (hl : ∀ i ρ S, I i ρ S → ∃ kd, look x S = some (kd, ws))
    (hs : ∀ i w ρ S, ws[i]? = some w → I i ρ S → Out (I (i + 1)) Q (body (ρ.set v (some w)) S)) (he : ∀ ρ S, I ws.length ρ S → Out P Q (b ρ S)) : Out P Q (esSeq (esFor (eiSeq a) (.one (egName v)) body) b ρ S) := by
  refine o_seq ?_
  rw [for_src hi]
  refine o_loop I ws.length (fun i ρ S hk h => ?_) (fun ρ S h => ?_) ws.length 0 ρ S1 (by omega) h0
  · obtain ⟨kd, q⟩ := hl i ρ S h
    have e : ws[i]? = some ws[i] := List.getElem?_eq_getElem hk
    refine ⟨false, [ws[i]], ρ.set v (some ws[i]), S, ?_, rfl, hs i ws[i] ρ S e h⟩
    show nxSeq x i S = _
    unfold nxSeq
    rw [q]
    dsimp only
    rw [e]
  · obtain ⟨kd, q⟩ := hl _ ρ S h
    refine ⟨?_, he ρ S h⟩
    show nxSeq x ws.length S = _
    unfold nxSeq
    rw [q]
    dsimp only
    rw [List.getElem?_eq_none (Nat.le_refl _)]
/-- over a list that is written out -/
def EachL (P : G.Env → Hs → Prop) (Q : RS → Prop) (v : Nat) (body : Es) : List W → G.Env → Hs → Prop
  | [], ρ, S => P ρ S
  | w :: ws, ρ, S => Out (fun ρ S => EachL P Q v body ws ρ S) Q (body (ρ.set v (some w)) S)
theorem each_drop {P : G.Env → Hs → Prop} {v : Nat} {body : Es} {ws : List W} {i : Nat} {w : W} (e : ws[i]? = some w) (h : EachL P Q v body (ws.drop i) ρ S) : Out (fun ρ S => EachL P Q v body (ws.drop (i + 1)) ρ S) Q (body (ρ.set v (some w)) S) := by
  have hl : i < ws.length := by
    rcases Nat.lt_or_ge i ws.length with z | z
    · exact z
    · rw [List.getElem?_eq_none z] at e; cases e
  have q : ws.drop i = w :: ws.drop (i + 1) := by
    rw [List.drop_eq_getElem_cons hl]
    rw [List.getElem?_eq_getElem hl] at e
    rw [Option.some.inj e]
  rw [q] at h
  exact h
theorem o_lit {v : Nat} {body b : Es} {a : Ev} {kd : Sk} {dd : G.D} {ws : List W} (hi : a ρ S = .ok (.val dd) S1) (hl : ∀ S, look (.val dd) S = some (kd, ws)) (h : EachL (fun ρ S => Out P Q (b ρ S)) Q v body ws ρ S1) :
    Out P Q (esSeq (esFor (eiSeq a) (.one (egName v)) body) b ρ S) := by
  have e : eiSeq a ρ S = .ok ⟨ws.length, nxSeq (.val dd)⟩ S1 := by
    unfold eiSeq
    rw [hi]
    dsimp only [G.R.bind]
    have q := hl S1
    cases dd with
    | str z => unfold look at q; cases q
    | lst ds => dsimp only; rw [q]
    | tup ds => dsimp only; rw [q]
    | sq ds => dsimp only; rw [q]
    | _ => unfold look at q; cases q
  refine o_each (fun i ρ S => EachL (fun ρ S => Out P Q (b ρ S)) Q v body (ws.drop i) ρ S) e ?_ (fun _ _ S _ => ⟨kd, hl S⟩) (fun i w ρ S e h => each_drop e h) (fun ρ S h => ?_)
  · rw [List.drop_zero]; exact h
  · rw [List.drop_eq_nil_of_le (Nat.le_refl _)] at h; exact h
/-! comprehensions -/
theorem c_loop {src : Src} {v : Nat} {t : Et} {e : Ev} {ρ0 : G.Env} {f : Nat → W} (k : Nat) (hk : k < 16777216) (hn : ∀ i, i < k → src.nxt i S = .item false [f i]) (hstop : src.nxt k S = .stop) {p : Nat → Bool} {g : Nat → W}
    (hc : ∀ i, i < k → t (ρ0.set v (some (f i))) S = .ok (p i) S) (hg : ∀ i, i < k → p i = true → e (ρ0.set v (some (f i))) S = .ok (g i) S) :
    ∀ j i acc, i + j = k → acc.length ≤ i → loopC src (.one (egName v)) t e j i ρ0 acc S = .ok (acc ++ ((List.range' i j).filter p).map g) S := by
  intro j
  induction j with
  | zero =>
    intro i acc q _
    have e2 : i = k := by omega
    subst e2
    unfold loopC
    rw [hstop]
    simp
  | succ j ih =>
    intro i acc q ha
    have hi : i < k := by omega
    unfold loopC
    rw [hn i hi]
    dsimp only [Tk.run, egName]
    rw [hc i hi]
    cases z : p i with
    | true =>
      dsimp only
      rw [hg i hi z]
      dsimp only
      rw [if_pos (by omega), ih (i + 1) _ (by omega) (by simp; omega), List.range'_succ]
      simp [z]
    | false =>
      dsimp only
      rw [ih (i + 1) _ (by omega) (by omega), List.range'_succ]
      simp [z]
theorem e_lc {own : Bool} {vs : List Nat} {it : Ei} {v : Nat} {t : Et} {e : Ev} {src : Src} {f : Nat → W} (hi : it ρ S = .ok src S1) (hk : src.bound < 16777216) (hn : ∀ i, i < src.bound → src.nxt i S1 = .item false [f i]) (hstop : src.nxt src.bound S1 = .stop)
    {p : Nat → Bool} {g : Nat → W} (hc : ∀ i, i < src.bound → t ((wipeE ρ vs).set v (some (f i))) S1 = .ok (p i) S1) (hg : ∀ i, i < src.bound → p i = true → e ((wipeE ρ vs).set v (some (f i))) S1 = .ok (g i) S1) :
    evLc own vs it (.one (egName v)) t e ρ S = mkLst own (((List.range src.bound).filter p).map g) S1 := by
  unfold evLc
  rw [hi]
  dsimp only [G.R.bind]
  rw [c_loop src.bound hk hn hstop hc hg src.bound 0 [] (by omega) (by simp)]
  dsimp only [G.R.bind]
  rw [List.nil_append, List.range_eq_range']
end
/-! calls -/
def PF : G.Env → Hs → Prop := fun _ _ => False
theorem call_of {np n : Nat} {b : Es} {ws : List W} {ds : List G.D} {d : G.D} {S : Hs} (hv : vals? ws = some ds) (hl : ws.length = np) (h : Out PF (fun r => ∃ S', r = .rt (.val d) S') (b (startE n ws) [])) : callV (runF np n b) ws S = .ok (.val d) S := by
  unfold callV runF
  rw [hv]
  dsimp only
  rw [if_pos hl]
  cases e : b (startE n ws) [] with
  | nx ρ S1 => rw [e] at h; exact h.o.elim
  | rt w S1 => rw [e] at h; obtain ⟨S', q⟩ := h.o; cases q; rfl
  | exc c fs ρ S1 => rw [e] at h; obtain ⟨S', q⟩ := h.o; cases q
  | ct ρ S1 => rw [e] at h; exact h.o.elim
  | bk ρ S1 => rw [e] at h; exact h.o.elim
  | no => rw [e] at h; exact h.o.elim
theorem call_exc {np n : Nat} {b : Es} {ws : List W} {ds : List G.D} {c : Str} {fs : List (Str × G.D)} {S : Hs} (hv : vals? ws = some ds) (hl : ws.length = np) (h : Out PF (fun r => ∃ ρ S', r = .exc c fs ρ S') (b (startE n ws) [])) : callV (runF np n b) ws S = .exc c fs S := by
  unfold callV runF
  rw [hv]
  dsimp only
  rw [if_pos hl]
  cases e : b (startE n ws) [] with
  | nx ρ S1 => rw [e] at h; exact h.o.elim
  | rt w S1 => rw [e] at h; obtain ⟨_, S', q⟩ := h.o; cases q
  | exc c fs ρ S1 => rw [e] at h; obtain ⟨_, S', q⟩ := h.o; cases q; rfl
  | ct ρ S1 => rw [e] at h; exact h.o.elim
  | bk ρ S1 => rw [e] at h; exact h.o.elim
  | no => rw [e] at h; exact h.o.elim
/-- a call with owned arguments, or with plain ones -/
theorem call_any {np n : Nat} {b : Es} {ws : List W} {d : G.D} {S : Hs} (hl : ws.length = np) (h : ∀ S0, (S0 = S ∨ ∃ ds, vals? ws = some ds) → Out PF (fun r => r = .rt (.val d) S0) (b (startE n ws) S0)) : callV (runF np n b) ws S = .ok (.val d) S := by
  unfold callV runF
  cases hv : vals? ws with
  | some ds =>
    dsimp only
    rw [if_pos hl]
    have h := h [] (.inr ⟨ds, hv⟩)
    cases e : b (startE n ws) [] with
    | nx ρ S1 => rw [e] at h; exact h.o.elim
    | rt w S1 => rw [e] at h; cases h.o; rfl
    | exc c fs ρ S1 => rw [e] at h; cases h.o
    | ct ρ S1 => rw [e] at h; exact h.o.elim
    | bk ρ S1 => rw [e] at h; exact h.o.elim
    | no => rw [e] at h; exact h.o.elim
  | none =>
    dsimp only
    rw [if_pos hl]
    have h := h S (.inl rfl)
    cases e : b (startE n ws) S with
    | nx ρ S1 => rw [e] at h; exact h.o.elim
    | rt w S1 => rw [e] at h; cases h.o; rfl
    | exc c fs ρ S1 => rw [e] at h; cases h.o
    | ct ρ S1 => rw [e] at h; exact h.o.elim
    | bk ρ S1 => rw [e] at h; exact h.o.elim
    | no => rw [e] at h; exact h.o.elim
end HT

set_option maxRecDepth 100000
set_option linter.all false
set_option Elab.async false
/-! A2: pairs as rows; what equals what. -/
namespace HT
open PySem G
theorem gEq_int (i j : Int) (S : Hs) : gEq (.val (.int i)) (.val (.int j)) S = .ok (.val (.bl (decide (i = j)))) S := by
  unfold gEq eqW flatD
  simp [L2.scal]
theorem gNe_int (i j : Int) (S : Hs) : gNe (.val (.int i)) (.val (.int j)) S = .ok (.val (.bl (!decide (i = j)))) S := by
  unfold gNe eqW flatD
  simp [L2.scal]
def prD (p : Int × Int) : G.D := .tup [.int p.1, .int p.2]
def prY (p : Int × Int) : PyData := .tuple [.int p.1, .int p.2]
theorem toPy_pr (p : Int × Int) : toPy (prD p) = some (prY p) := rfl
theorem toPys_pr : ∀ ps : List (Int × Int), toPys (ps.map prD) = some (ps.map prY) := by
  intro ps
  induction ps with
  | nil => rfl
  | cons p ps ih => rw [List.map_cons, List.map_cons, toPys, toPy_pr, ih]
theorem pr_eqv (p p' : Int × Int) : PyData.eqv (prY p) (prY p') = decide (p = p') := by
  obtain ⟨a, b⟩ := p
  obtain ⟨c, d⟩ := p'
  simp [prY, PyData.eqv, PyData.eqvAll]
  by_cases h : a = c <;> by_cases h2 : b = d <;> simp [h, h2]
theorem prs_eqv : ∀ ps qs : List (Int × Int), PyData.eqvAll (ps.map prY) (qs.map prY) = decide (ps = qs) := by
  intro ps
  induction ps with
  | nil => intro qs; cases qs <;> simp [PyData.eqvAll]
  | cons p ps ih =>
    intro qs
    cases qs with
    | nil => simp [PyData.eqvAll]
    | cons q qs =>
      rw [List.map_cons, List.map_cons, PyData.eqvAll, pr_eqv, ih]
      by_cases h : p = q <;> by_cases h2 : ps = qs <;> simp [h, h2]
theorem pr_lay (p : Int × Int) : (prY p).canLay0 = true := by simp [prY, PyData.canLay0, PyData.canLayAll0]
theorem prs_lay : ∀ ps : List (Int × Int), PyData.canLayAll0 (ps.map prY) = true := by
  intro ps
  induction ps with
  | nil => simp [PyData.canLayAll0]
  | cons p ps ih => rw [List.map_cons, PyData.canLayAll0, pr_lay, ih]; rfl
theorem pr_depth (p : Int × Int) : (prY p).depth ≤ 5 := by simp [prY, PyData.depth, PyData.depthAll]
theorem prs_depth : ∀ ps : List (Int × Int), PyData.depthAll (ps.map prY) ≤ 5 := by
  intro ps
  induction ps with
  | nil => simp [PyData.depthAll]
  | cons p ps ih => rw [List.map_cons, PyData.depthAll]; have := pr_depth p; omega
theorem pr_shaped (p : Int × Int) : SeqAt.shaped (prY p) = true := by
  unfold SeqAt.shaped
  rw [pr_lay]
  have := pr_depth p
  simp; omega
theorem tprs_shaped (ps : List (Int × Int)) : SeqAt.shaped (.tuple (ps.map prY)) = true := by
  unfold SeqAt.shaped
  rw [PyData.canLay0, prs_lay]
  have := prs_depth ps
  simp [PyData.depth]; omega
theorem lprs_shaped (ps : List (Int × Int)) : SeqAt.shaped (.list (ps.map prY)) = true := by
  unfold SeqAt.shaped
  rw [PyData.canLay0, prs_lay]
  have := prs_depth ps
  simp [PyData.depth]; omega
theorem eqW_py {x y : W} {S : Hs} {d e : PyData} (f : flatD x = none) (hx : pyW S 8 x = some d) (hy : pyW S 8 y = some e) (sx : SeqAt.shaped d = true) (sy : SeqAt.shaped e = true) : eqW x y S = some (PyData.eqv d e) := by
  unfold eqW
  rw [f, hx, hy]
  simp [sx, sy]
theorem gEq_of {x y : W} {S : Hs} {b : Bool} (h : eqW x y S = some b) : gEq x y S = .ok (.val (.bl b)) S := by
  unfold gEq
  rw [h]
theorem gNe_of {x y : W} {S : Hs} {b : Bool} (h : eqW x y S = some b) : gNe x y S = .ok (.val (.bl (!b))) S := by
  unfold gNe
  rw [h]
theorem py_val (S : Hs) (n : Nat) (d : G.D) : pyW S n (.val d) = toPy d := by cases n <;> rfl
theorem eq_pr (p p' : Int × Int) (S : Hs) : eqW (.val (prD p)) (.val (prD p')) S = some (decide (p = p')) := by
  rw [eqW_py (d := prY p) (e := prY p') rfl (py_val ..) (py_val ..) (pr_shaped p) (pr_shaped p'), pr_eqv]
theorem eq_prs (ps qs : List (Int × Int)) (S : Hs) : eqW (.val (.tup (ps.map prD))) (.val (.tup (qs.map prD))) S = some (decide (ps = qs)) := by
  rw [eqW_py (d := .tuple (ps.map prY)) (e := .tuple (qs.map prY)) rfl (by rw [py_val, toPy, toPys_pr]; rfl) (by rw [py_val, toPy, toPys_pr]; rfl) (tprs_shaped ps) (tprs_shaped qs), PyData.eqv, prs_eqv]
theorem allSome_val (S : Hs) (n : Nat) : ∀ ds : List G.D, allSome (pyW S n) (ds.map .val) = toPys ds := by
  intro ds
  induction ds with
  | nil => rfl
  | cons d ds ih =>
    rw [List.map_cons, allSome, py_val, ih, toPys]
    cases toPy d <;> cases toPys ds <;> rfl
/-- a row of pairs, as a list that is plain or owned -/
def PsW (S : Hs) (x : W) (ps : List (Int × Int)) : Prop := look x S = some (.l, (ps.map prD).map .val)
theorem py_ps {S : Hs} {x : W} {ps : List (Int × Int)} (h : PsW S x ps) (n : Nat) : pyW S (n + 1) x = some (.list (ps.map prY)) := by
  unfold PsW look at h
  cases x with
  | val d =>
    cases d with
    | lst ds =>
      dsimp only at h
      have e : ds.map W.val = (ps.map prD).map .val := (Prod.mk.inj (Option.some.inj h)).2
      have e2 : ds = ps.map prD := by
        have inj : ∀ (as bs : List G.D), as.map W.val = bs.map .val → as = bs := by
          intro as
          induction as with
          | nil => intro bs h; cases bs with | nil => rfl | cons b bs => cases h
          | cons a as ih =>
            intro bs h
            cases bs with
            | nil => cases h
            | cons b bs => rw [List.map_cons, List.map_cons] at h; injection h with h1 h2; injection h1 with h1; rw [h1, ih bs h2]
        exact inj _ _ e
      rw [e2, py_val, toPy, toPys_pr]; rfl
    | tup ds => dsimp only at h; cases h
    | sq ds => dsimp only at h; cases h
    | _ => dsimp only at h; cases h
  | ref i =>
    dsimp only at h
    unfold pyW
    split at h
    · rename_i ws e
      have e2 : ws = (ps.map prD).map .val := (Prod.mk.inj (Option.some.inj h)).2
      rw [e2, allSome_val, toPys_pr]; rfl
    · cases h
theorem flat_ps {S : Hs} {x : W} {ps : List (Int × Int)} (h : PsW S x ps) : flatD x = none := by
  cases x with
  | ref i => rfl
  | val d =>
    cases d with
    | _ => first | rfl | (unfold PsW look at h; cases h)
theorem eq_lists {S : Hs} {x y : W} {ps qs : List (Int × Int)} (h : PsW S x ps) (k : PsW S y qs) : eqW x y S = some (decide (ps = qs)) := by
  rw [eqW_py (flat_ps h) (py_ps h 7) (py_ps k 7) (lprs_shaped ps) (lprs_shaped qs), PyData.eqv, prs_eqv]
/-- one row of two integers -/
def PairW (S : Hs) (x : W) (p : Int × Int) : Prop := ∃ kd, look x S = some (kd, [.val (.int p.1), .val (.int p.2)])
theorem pair_t (S : Hs) (p : Int × Int) : PairW S (.val (prD p)) p := ⟨.t, rfl⟩
theorem pair_l (S : Hs) (p : Int × Int) : PairW S (.val (.lst [.int p.1, .int p.2])) p := ⟨.l, rfl⟩
theorem look_any {S S0 : Hs} {x : W} {us : List W} (h : S0 = S ∨ ∃ ds, vals? (x :: us) = some ds) : look x S0 = look x S := by
  rcases h with h | ⟨ds, h⟩
  · rw [h]
  · cases x with
    | val d => cases d <;> rfl
    | ref i => cases h
theorem tag_look {S : Hs} {x : W} {kd : Sk} {ws : List W} (h : look x S = some (kd, ws)) : tagW x S = some (.b "tuple") ∨ tagW x S = some (.b "list") := by
  cases x with
  | val d => cases d <;> first | exact .inl rfl | exact .inr rfl | (unfold look at h; cases h)
  | ref i =>
    unfold look at h
    dsimp only at h
    split at h
    · rename_i ws e
      right
      unfold tagW
      dsimp only
      rw [e]
    · cases h
theorem e_isrow {S S1 : Hs} {ρ : G.Env} {a : Ev} {x : W} {kd : Sk} {ws : List W} (ha : a ρ S = .ok x S1) (h : look x S1 = some (kd, ws)) : evIs T_list_tuple a ρ S = .ok (.val (.bl true)) S1 := by
  unfold evIs
  refine e_un ha ?_
  rcases tag_look h with q | q
  · rw [q]; rfl
  · rw [q]; rfl
theorem v_is_row {S : Hs} {x : W} {kd : Sk} {ws : List W} (h : look x S = some (kd, ws)) : callV r_is_row [x] S = .ok (.val (.bl true)) S := by
  refine call_any rfl fun S0 hS => ?_
  have h : look x S0 = some (kd, ws) := (look_any hS).trans h
  unfold x_is_row
  exact o_ret (e_isrow (x := x) rfl h) rfl
theorem len_look {S : Hs} {x : W} {kd : Sk} {ws : List W} (h : look x S = some (kd, ws)) : gLen [x] S = .ok (.val (.int ws.length)) S := by
  unfold gLen
  cases x with
  | val d => cases d <;> first | (unfold look at h; cases h; done) | (dsimp only; rw [h])
  | ref i => dsimp only; rw [h]
theorem v_is_row_of {S : Hs} {x : W} {kd : Sk} {ws : List W} {n : Int} (h : look x S = some (kd, ws)) : callV r_is_row_of [x, .val (.int n)] S = .ok (.val (.bl (decide ((ws.length : Int) = n)))) S := by
  refine call_any rfl fun S0 hS => ?_
  have h : look x S0 = some (kd, ws) := (look_any hS).trans h
  unfold x_is_row_of
  refine o_ret (e_and (c := true) (e_cb (ws := [x]) rfl (v_is_row h)) fun _ => e_bin (e_cb (ws := [x]) rfl (len_look h)) rfl (gEq_int ..)) ?_
  simp
theorem nx_seq {S : Hs} {x : W} {kd : Sk} {ws : List W} (h : look x S = some (kd, ws)) (i : Nat) : nxSeq x i S = match ws[i]? with
    | some u => .item false [u]
    | none => .stop := by
  unfold nxSeq
  rw [h]
  first | done | rfl
theorem ei_seq {S S1 : Hs} {ρ : G.Env} {a : Ev} {x : W} {kd : Sk} {ws : List W} (ha : a ρ S = .ok x S1) (h : look x S1 = some (kd, ws)) : eiSeq a ρ S = .ok ⟨ws.length, nxSeq x⟩ S1 := by
  unfold eiSeq
  rw [ha]
  dsimp only [G.R.bind]
  cases x with
  | val d => cases d <;> first | (unfold look at h; cases h; done) | (dsimp only; rw [h])
  | ref i => dsimp only; rw [h]
/-- a comprehension over a row -/
theorem e_lcs {S S1 : Hs} {ρ : G.Env} {own : Bool} {vs : List Nat} {v : Nat} {t : Et} {e a : Ev} {x : W} {kd : Sk} {ws : List W} (ha : a ρ S = .ok x S1) (h : look x S1 = some (kd, ws)) (hk : ws.length < 16777216) {p : W → Bool} {g : W → W}
    (hc : ∀ w, w ∈ ws → t ((wipeE ρ vs).set v (some w)) S1 = .ok (p w) S1) (hg : ∀ w, w ∈ ws → p w = true → e ((wipeE ρ vs).set v (some w)) S1 = .ok (g w) S1) :
    evLc own vs (eiSeq a) (.one (egName v)) t e ρ S = mkLst own ((ws.filter p).map g) S1 := by
  have hm : ∀ i, i < ws.length → ws[i]? = some (ws.getD i (.val .non)) := fun i hi => by
    rw [List.getD_eq_getElem?_getD, List.getElem?_eq_getElem hi]; rfl
  have hin : ∀ i, i < ws.length → ws.getD i (.val .non) ∈ ws := fun i hi => List.mem_of_getElem? (hm i hi)
  rw [e_lc (src := ⟨ws.length, nxSeq x⟩) (f := fun i => ws.getD i (.val .non)) (p := fun i => p (ws.getD i (.val .non))) (g := fun i => g (ws.getD i (.val .non))) (ei_seq ha h) hk (fun i hi => by
    show nxSeq x i S1 = _
    rw [nx_seq h, hm i hi]) (by
    show nxSeq x ws.length S1 = _
    rw [nx_seq h, List.getElem?_eq_none (Nat.le_refl _)]) (fun i hi => hc _ (hin i hi)) (fun i hi q => hg _ (hin i hi) q)]
  congr 1
  have e2 : (List.range ws.length).map (fun i => ws.getD i (.val .non)) = ws := by
    refine List.ext_getElem (by simp) fun i h1 h2 => ?_
    simp [List.getD_eq_getElem?_getD, List.getElem?_eq_getElem h2]
  show ((List.range ws.length).filter fun i => p (ws.getD i (.val .non))).map (fun i => g (ws.getD i (.val .non))) = _
  conv => rhs; rw [← e2]
  rw [List.filter_map, List.map_map]
  rfl
theorem e_lcsY {S S1 : Hs} {ρ : G.Env} {own : Bool} {vs : List Nat} {v : Nat} {e a : Ev} {x : W} {kd : Sk} {ws : List W} (ha : a ρ S = .ok x S1) (h : look x S1 = some (kd, ws)) (hk : ws.length < 16777216) {g : W → W}
    (hg : ∀ w, w ∈ ws → e ((wipeE ρ vs).set v (some w)) S1 = .ok (g w) S1) : evLc own vs (eiSeq a) (.one (egName v)) etYes e ρ S = mkLst own (ws.map g) S1 := by
  rw [e_lcs ha h hk (p := fun _ => true) (fun _ _ => rfl) (fun w hw _ => hg w hw)]
  rw [List.filter_eq_self.mpr (fun _ _ => rfl)]
theorem e_lcr {S S1 : Hs} {ρ : G.Env} {own : Bool} {vs : List Nat} {v k : Nat} {e : Ev} {a : Ea} (ha : a ρ S = .ok [.val (.int (k : Int))] S1) (hk : k ≤ 100000) {g : Nat → W}
    (hg : ∀ i, i < k → e ((wipeE ρ vs).set v (some (.val (.int (i : Int))))) S1 = .ok (g i) S1) : evLc own vs (eiRng1 a) (.one (egName v)) etYes e ρ S = mkLst own ((List.range k).map g) S1 := by
  rw [e_lc (p := fun _ => true) (g := g) (f := fun i => .val (.int (i : Int))) (rng1_ok ha hk) (by show k < _; omega) (fun i hi => if_pos hi) (if_neg (Nat.lt_irrefl k)) (fun _ _ => rfl) (fun i hi _ => hg i hi)]
  rw [List.filter_eq_self.mpr (fun _ _ => rfl)]
theorem vals_map : ∀ ds : List G.D, vals? (ds.map .val) = some ds := by
  intro ds
  induction ds with
  | nil => rfl
  | cons d ds ih => rw [List.map_cons, vals?, ih]; rfl
theorem mk_plain {ds : List G.D} {S : Hs} (h : ds.length ≤ 16777216) : mkLst false (ds.map .val) S = .ok (.val (.lst ds)) S := by
  unfold mkLst
  rw [vals_map, List.length_map, if_pos h]
  rfl
theorem mk_tup {ds : List G.D} {S : Hs} (h : ds.length ≤ 16777216) : mkTup (ds.map .val) S = .ok (.val (.tup ds)) S := by
  unfold mkTup
  rw [vals_map]
  dsimp only
  rw [if_pos h]
theorem all_bl : ∀ bs : List Bool, allSome boolD (bs.map fun b => W.val (.bl b)) = some bs := by
  intro bs
  induction bs with
  | nil => rfl
  | cons b bs ih => rw [List.map_cons, allSome, ih]; rfl
theorem gAll_bl (bs : List Bool) (S : Hs) : gAll [.val (.lst (bs.map G.D.bl))] S = .ok (.val (.bl (bs.all id))) S := by
  unfold gAll
  have e : look (.val (.lst (bs.map G.D.bl))) S = some (.l, bs.map fun b => W.val (.bl b)) := by
    show some (Sk.l, (bs.map G.D.bl).map W.val) = _
    rw [List.map_map]; rfl
  dsimp only
  rw [e]
  dsimp only
  rw [all_bl]
theorem v_is_int_i (i : Int) (S : Hs) : callV r_is_int [.val (.int i)] S = .ok (.val (.bl true)) S := rfl
theorem v_int_row {S : Hs} {x : W} {p : Int × Int} (h : PairW S x p) : callV r_is_int_row [x, .val (.int 2)] S = .ok (.val (.bl true)) S := by
  obtain ⟨kd, h⟩ := h
  refine call_any rfl fun S0 hS => ?_
  have h : look x S0 = some (kd, _) := (look_any hS).trans h
  unfold x_is_int_row
  refine o_ret (e_and (c := true) (d := true) (e_cb (ws := [x, .val (.int 2)]) rfl (v_is_row_of h)) fun _ => ?_) rfl
  refine e_cb (ws := [.val (.lst [.bl true, .bl true])]) ?_ rfl
  refine a_cons (us := []) ?_ rfl
  refine (e_lcsY (x := x) rfl h (by simp) (g := fun _ => .val (.bl true)) fun w hw => ?_).trans rfl
  simp only [List.mem_cons, List.not_mem_nil, or_false] at hw
  rcases hw with hw | hw
  · subst hw; rfl
  · subst hw; rfl
theorem ix_look {S : Hs} {x : W} {kd : Sk} {ws : List W} (h : look x S = some (kd, ws)) (i : Nat) {w : W} (e : ws[i]? = some w) : gIx x (.val (.int (i : Int))) S = .ok w S := by
  have hi : i < ws.length := by
    rcases Nat.lt_or_ge i ws.length with z | z
    · exact z
    · rw [List.getElem?_eq_none z] at e; cases e
  have q : L2.atI ws (i : Int) = some w := by
    unfold L2.atI L2.ixN
    rw [if_pos (by omega), if_pos (by omega)]
    simpa using e
  cases x with
  | val d => cases d <;> first | (unfold look at h; cases h; done) | (unfold gIx; dsimp only; rw [h]; dsimp only; rw [q])
  | ref i => unfold gIx; dsimp only; rw [h]; dsimp only; rw [q]
theorem v_pair {S : Hs} {x : W} {p : Int × Int} (h : PairW S x p) (h0 : 0 ≤ p.1) : callV r_is_number_pair [x] S = .ok (.val (.bl true)) S := by
  refine call_any rfl fun S0 hS => ?_
  have hp : PairW S0 x p := by obtain ⟨kd, h⟩ := h; exact ⟨kd, (look_any hS).trans h⟩
  obtain ⟨kd, h⟩ := hp
  unfold x_is_number_pair
  refine o_ret (e_and (c := true) (d := true) (e_cb (ws := [x, .val (.int 2)]) rfl (v_int_row ⟨kd, h⟩)) fun _ => ?_) rfl
  refine e_bin (e_bin (x := x) (y := .val (.int 0)) rfl rfl (ix_look h 0 rfl)) rfl ?_
  show G.R.ok (W.val (.bl (decide (0 ≤ p.1)))) S0 = _
  simp [h0]
end HT

set_option maxRecDepth 100000
set_option linter.all false
set_option Elab.async false
/-! A3: Numbers is made; its pairs by rank. -/
namespace HT
open PySem G
def Ext (S S' : Hs) : Prop := ∃ T, S' = S ++ T
theorem Ext.refl {S : Hs} : Ext S S := ⟨[], by simp⟩
theorem Ext.trans {S S1 S2 : Hs} (h : Ext S S1) (k : Ext S1 S2) : Ext S S2 := by
  obtain ⟨T, rfl⟩ := h
  obtain ⟨U, rfl⟩ := k
  exact ⟨T ++ U, by rw [List.append_assoc]⟩
theorem Ext.at_ {S S' : Hs} (h : Ext S S') {i : Nat} {c : Option Cell} (e : S[i]? = some c) : S'[i]? = some c := by
  obtain ⟨T, rfl⟩ := h
  have l : i < S.length := by
    rcases Nat.lt_or_ge i S.length with z | z
    · exact z
    · rw [List.getElem?_eq_none z] at e; cases e
  rw [List.getElem?_append_left l]; exact e
theorem Ext.look {S S' : Hs} (h : Ext S S') {x : W} {r : Sk × List W} (e : look x S = some r) : look x S' = some r := by
  cases x with
  | val d => cases d <;> exact e
  | ref i =>
    unfold G.look at e ⊢
    dsimp only at e ⊢
    split at e
    · rename_i ws q
      rw [h.at_ q]; exact e
    · cases e
theorem PairW.ext {S S' : Hs} {x : W} {p : Int × Int} (h : PairW S x p) (k : Ext S S') : PairW S' x p := by
  obtain ⟨kd, h⟩ := h
  exact ⟨kd, k.look h⟩
structure RowsW (S : Hs) (rows : List W) (ps : List (Int × Int)) : Prop where
  len : rows.length = ps.length
  at_ : ∀ (i : Nat) (w : W) (p : Int × Int), rows[i]? = some w → ps[i]? = some p → PairW S w p
theorem RowsW.ext {S S' : Hs} {rows : List W} {ps : List (Int × Int)} (h : RowsW S rows ps) (k : Ext S S') : RowsW S' rows ps := ⟨h.len, fun i w p e f => (h.at_ i w p e f).ext k⟩
theorem RowsW.take {S : Hs} {rows : List W} {ps : List (Int × Int)} (h : RowsW S rows ps) (m : Nat) : RowsW S (rows.take m) (ps.take m) := by
  refine ⟨by rw [List.length_take, List.length_take, h.len], fun i w p e f => ?_⟩
  by_cases q : i < m
  · rw [List.getElem?_take_of_lt q] at e f; exact h.at_ i w p e f
  · rw [List.getElem?_eq_none (by rw [List.length_take]; omega)] at e; cases e
theorem RowsW.plain (S : Hs) (ps : List (Int × Int)) : RowsW S ((ps.map prD).map .val) ps := by
  refine ⟨by simp, fun i w p e f => ?_⟩
  rw [List.map_map, List.getElem?_map, f] at e
  have e2 := Option.some.inj e
  subst e2
  exact pair_t S p
def twW (S : Hs) (w : W) : W := match look w S with
  | some (_, ws) => (match vals? ws with
    | some ds => .val (.tup ds)
    | none => w)
  | none => w
theorem tw_pair {S : Hs} {x : W} {p : Int × Int} (h : PairW S x p) : twW S x = .val (prD p) := by
  obtain ⟨kd, h⟩ := h
  unfold twW
  rw [h]
  rfl
theorem val_inj : ∀ {as bs : List G.D}, as.map W.val = bs.map .val → as = bs := by
  intro as
  induction as with
  | nil => intro bs h; cases bs with | nil => rfl | cons b bs => cases h
  | cons a as ih =>
    intro bs h
    cases bs with
    | nil => cases h
    | cons b bs => rw [List.map_cons, List.map_cons] at h; injection h with h1 h2; injection h1 with h1; rw [h1, ih h2]
theorem tup_pair {S : Hs} {x : W} {p : Int × Int} (h : PairW S x p) : gTuple [x] S = .ok (.val (prD p)) S := by
  obtain ⟨kd, h⟩ := h
  have mk : mkTup [W.val (.int p.1), W.val (.int p.2)] S = .ok (.val (prD p)) S := rfl
  unfold gTuple
  cases x with
  | val d =>
    cases d with
    | tup ds =>
      dsimp only
      have e : ds.map W.val = [G.D.int p.1, .int p.2].map .val := (Prod.mk.inj (Option.some.inj h)).2
      rw [val_inj e]; rfl
    | lst ds =>
      have e : ds.map W.val = [G.D.int p.1, .int p.2].map .val := (Prod.mk.inj (Option.some.inj h)).2
      rw [val_inj e]; rfl
    | sq ds =>
      have e : ds.map W.val = [G.D.int p.1, .int p.2].map .val := (Prod.mk.inj (Option.some.inj h)).2
      rw [val_inj e]; rfl
    | _ => unfold look at h; cases h
  | ref i =>
    dsimp only
    unfold look at h ⊢
    dsimp only at h ⊢
    split at h
    · have e := (Prod.mk.inj (Option.some.inj h)).2
      subst e
      rfl
    · cases h
theorem rows_tw {S : Hs} {rows : List W} {ps : List (Int × Int)} (h : RowsW S rows ps) : rows.map (twW S) = (ps.map prD).map .val := by
  refine List.ext_getElem (by simp [h.len]) fun i h1 h2 => ?_
  have l1 : i < rows.length := by simpa using h1
  have l2 : i < ps.length := by rw [← h.len]; exact l1
  simp only [List.getElem_map]
  exact tw_pair (h.at_ i _ _ (List.getElem?_eq_getElem l1) (List.getElem?_eq_getElem l2))
theorem rows_mem {S : Hs} {rows : List W} {ps : List (Int × Int)} (h : RowsW S rows ps) {w : W} (hw : w ∈ rows) : ∃ p, p ∈ ps ∧ PairW S w p := by
  obtain ⟨i, l, e⟩ := List.getElem_of_mem hw
  have l2 : i < ps.length := by rw [← h.len]; exact l
  exact ⟨ps[i], List.getElem_mem l2, h.at_ i w _ (by rw [List.getElem?_eq_getElem l, e]) (List.getElem?_eq_getElem l2)⟩
theorem tup_lst {ds : List G.D} {S : Hs} (h : ds.length ≤ 16777216) : gTuple [.val (.lst ds)] S = .ok (.val (.tup ds)) S := by
  unfold gTuple look
  dsimp only
  exact mk_tup h
theorem v_frozen {S : Hs} {x : W} {kd : Sk} {rows : List W} {ps : List (Int × Int)} (h : look x S = some (kd, rows)) (hr : RowsW S rows ps) (hl : ps.length < 16777216) : callV r_frozen [x] S = .ok (.val (.tup (ps.map prD))) S := by
  refine call_any rfl fun S0 hS => ?_
  have h0 : look x S0 = some (kd, rows) := (look_any hS).trans h
  have hl2 : rows.length < 16777216 := by rw [hr.len]; exact hl
  unfold x_frozen
  refine o_ret (x := .val (.tup (ps.map prD))) (S1 := S0) ?_ rfl
  refine e_cb (ws := [.val (.lst (ps.map prD))]) (S1 := S0) (a_cons (us := []) ?_ rfl) (tup_lst (by rw [List.length_map]; omega))
  rcases hS with hS | ⟨ds, hS⟩
  · subst hS
    refine (e_lcsY (x := x) (g := twW S0) rfl h0 hl2 fun w hw => ?_).trans ?_
    · obtain ⟨p, _, hp⟩ := rows_mem hr hw
      rw [tw_pair hp]
      exact e_cb (ws := [w]) rfl (tup_pair hp)
    · rw [rows_tw hr]; exact mk_plain (by rw [List.length_map]; omega)
  · -- a plain row: its rows are plain
    have hv : ∃ d, x = .val d := by
      cases x with
      | val d => exact ⟨d, rfl⟩
      | ref i => cases hS
    obtain ⟨d, rfl⟩ := hv
    have hp : ∃ ds : List G.D, rows = ds.map .val := by
      cases d with
      | lst ds => exact ⟨ds, (Prod.mk.inj (Option.some.inj h)).2.symm⟩
      | tup ds => exact ⟨ds, (Prod.mk.inj (Option.some.inj h)).2.symm⟩
      | sq ds => exact ⟨ds, (Prod.mk.inj (Option.some.inj h)).2.symm⟩
      | _ => unfold look at h; cases h
    obtain ⟨ds, rfl⟩ := hp
    have hr0 : RowsW S0 (ds.map .val) ps := ⟨hr.len, fun i w p e f => by
      obtain ⟨kd, q⟩ := hr.at_ i w p e f
      rw [List.getElem?_map] at e
      cases e2 : ds[i]? with
      | none => rw [e2] at e; cases e
      | some d2 =>
        rw [e2] at e
        have e3 := Option.some.inj e
        subst e3
        refine ⟨kd, ?_⟩
        cases d2 <;> exact q⟩
    refine (e_lcsY (x := .val d) (g := twW S0) rfl h0 hl2 fun w hw => ?_).trans ?_
    · obtain ⟨p, _, hp⟩ := rows_mem hr0 hw
      rw [tw_pair hp]
      exact e_cb (ws := [w]) rfl (tup_pair hp)
    · rw [rows_tw hr0]; exact mk_plain (by rw [List.length_map]; omega)
/-! while -/
theorem o_while {P : G.Env → Hs → Prop} {Q : RS → Prop} {t : Et} {body : Es} (I : Nat → G.Env → Hs → Prop)
    (hs : ∀ n ρ S, I n ρ S → ∃ c, t ρ S = .ok c S ∧ (c = false → P ρ S) ∧ (c = true → ∃ m, n = m + 1 ∧ Out (I m) Q (body ρ S))) : ∀ n N ρ S, n < N → I n ρ S → Out P Q (loopW t body N ρ S) := by
  intro n
  induction n with
  | zero =>
    intro N ρ S hN h
    obtain ⟨k, rfl⟩ : ∃ k, N = k + 1 := ⟨N - 1, by omega⟩
    obtain ⟨c, h1, h2, h3⟩ := hs 0 ρ S h
    unfold loopW
    rw [h1]
    dsimp only [G.R.thenS]
    cases c with
    | false => exact ⟨h2 rfl⟩
    | true => obtain ⟨m, e, _⟩ := h3 rfl; omega
  | succ n ih =>
    intro N ρ S hN h
    obtain ⟨k, rfl⟩ : ∃ k, N = k + 1 := ⟨N - 1, by omega⟩
    obtain ⟨c, h1, h2, h3⟩ := hs (n + 1) ρ S h
    unfold loopW
    rw [h1]
    dsimp only [G.R.thenS]
    cases c with
    | false => exact ⟨h2 rfl⟩
    | true =>
      obtain ⟨m, e, h4⟩ := h3 rfl
      have e2 : m = n := by omega
      subst e2
      rw [if_pos rfl]
      cases e3 : body ρ S with
      | nx ρ2 S2 => rw [e3] at h4; exact ih k ρ2 S2 (by omega) h4.o
      | rt w S2 => rw [e3] at h4; exact ⟨h4.o⟩
      | exc c fs ρ2 S2 => rw [e3] at h4; exact ⟨h4.o⟩
      | ct ρ2 S2 => rw [e3] at h4; exact h4.o.elim
      | bk ρ2 S2 => rw [e3] at h4; exact h4.o.elim
      | no => rw [e3] at h4; exact h4.o.elim
theorem call_grow {np n : Nat} {b : Es} {ws : List W} {d : G.D} {S : Hs} (hl : ws.length = np) (h : ∀ S0, (S0 = S ∨ ∃ ds, vals? ws = some ds) → Out PF (fun r => ∃ S', r = .rt (.val d) S' ∧ Ext S0 S') (b (startE n ws) S0)) :
    ∃ S', callV (runF np n b) ws S = .ok (.val d) S' ∧ Ext S S' := by
  unfold callV runF
  cases hv : vals? ws with
  | some ds =>
    dsimp only
    rw [if_pos hl]
    have h := h [] (.inr ⟨ds, hv⟩)
    refine ⟨S, ?_, Ext.refl⟩
    cases e : b (startE n ws) [] with
    | nx ρ S1 => rw [e] at h; exact h.o.elim
    | rt w S1 => rw [e] at h; obtain ⟨S', q, _⟩ := h.o; cases q; rfl
    | exc c fs ρ S1 => rw [e] at h; obtain ⟨S', q, _⟩ := h.o; cases q
    | ct ρ S1 => rw [e] at h; exact h.o.elim
    | bk ρ S1 => rw [e] at h; exact h.o.elim
    | no => rw [e] at h; exact h.o.elim
  | none =>
    dsimp only
    rw [if_pos hl]
    have h := h S (.inl rfl)
    cases e : b (startE n ws) S with
    | nx ρ S1 => rw [e] at h; exact h.o.elim
    | rt w S1 => rw [e] at h; obtain ⟨S', q, h3⟩ := h.o; cases q; exact ⟨_, rfl, h3⟩
    | exc c fs ρ S1 => rw [e] at h; obtain ⟨S', q, _⟩ := h.o; cases q
    | ct ρ S1 => rw [e] at h; exact h.o.elim
    | bk ρ S1 => rw [e] at h; exact h.o.elim
    | no => rw [e] at h; exact h.o.elim
/-- plain arguments: nothing is left behind -/
theorem call_same {run : G.Run} {ws : List W} {ds : List G.D} {d : G.D} {S T : Hs} (hv : vals? ws = some ds) (h : callV run ws S = .ok (.val d) T) : callV run ws S = .ok (.val d) S := by
  unfold callV at h ⊢
  rw [hv] at h ⊢
  dsimp only at h ⊢
  revert h
  split
  · intro h; cases h; rfl
  · intro h
    split at h
    · split at h
      · cases h
      · cases h
    · cases h
  · intro h; cases h
  · intro h; cases h
theorem min_int (i j : Int) (S : Hs) : gMinus (.val (.int i)) (.val (.int j)) S = .ok (.val (.int (i - j))) S := rfl
theorem add_int (own : Bool) (i j : Int) (S : Hs) : gAdd own (.val (.int i)) (.val (.int j)) S = .ok (.val (.int (i + j))) S := rfl
theorem cmp_int (p : Int → Int → Bool) (i j : Int) (S : Hs) : gCmp p (.val (.int i)) (.val (.int j)) S = .ok (.val (.bl (p i j))) S := rfl
/-- the pairs that stand in a row, where a plain argument brings plain ones -/
theorem rows_any {S S0 : Hs} {x : W} {us : List W} {kd : Sk} {rows : List W} {ps : List (Int × Int)} (hS : S0 = S ∨ ∃ ds, vals? (x :: us) = some ds) (h : look x S = some (kd, rows)) (hr : RowsW S rows ps) : look x S0 = some (kd, rows) ∧ RowsW S0 rows ps := by
  refine ⟨(look_any hS).trans h, ?_⟩
  rcases hS with hS | ⟨ds, hS⟩
  · rw [hS]; exact hr
  · have hv : ∃ d, x = .val d := by
      cases x with
      | val d => exact ⟨d, rfl⟩
      | ref i => cases hS
    obtain ⟨d, rfl⟩ := hv
    have hp : ∃ ds : List G.D, rows = ds.map .val := by
      cases d with
      | lst ds => exact ⟨ds, (Prod.mk.inj (Option.some.inj h)).2.symm⟩
      | tup ds => exact ⟨ds, (Prod.mk.inj (Option.some.inj h)).2.symm⟩
      | sq ds => exact ⟨ds, (Prod.mk.inj (Option.some.inj h)).2.symm⟩
      | _ => unfold look at h; cases h
    obtain ⟨ds, rfl⟩ := hp
    refine ⟨hr.len, fun i w p e f => ?_⟩
    obtain ⟨kd, q⟩ := hr.at_ i w p e f
    rw [List.getElem?_map] at e
    cases e2 : ds[i]? with
    | none => rw [e2] at e; cases e
    | some d2 =>
      rw [e2] at e
      have e3 := Option.some.inj e
      subst e3
      refine ⟨kd, ?_⟩
      cases d2 <;> exact q
theorem cut_take {α : Type} (xs : List α) (m : Nat) (h : m ≤ xs.length) : cutW xs none (some (m : Int)) = xs.take m := by
  unfold cutW
  rw [HT.sIx_none, HT.sIx_nat, Nat.min_eq_left h]
  simp
/-- the first rows of a list or tuple -/
theorem sl_take {S : Hs} {x : W} {kd : Sk} {rows : List W} {ps : List (Int × Int)} (h : look x S = some (kd, rows)) (hk : kd ≠ .s) (hr : RowsW S rows ps) (hl : ps.length < 16777216) (m : Nat) (hm : m ≤ ps.length) :
    ∃ y S', gSl false x none (some (m : Int)) S = .ok y S' ∧ Ext S S' ∧ ∃ kd2, look y S' = some (kd2, rows.take m) := by
  have hm2 : m ≤ rows.length := by rw [hr.len]; exact hm
  have cell : ∀ ws, (mkLst false ws S = .ok (.ref S.length) (S ++ [some (.lst ws)])) ∨ (∃ ds, ws = ds.map .val ∧ mkLst false ws S = .ok (.val (.lst ds)) S) ∨ ¬ ws.length ≤ 16777216 := fun ws => by
    by_cases q : ws.length ≤ 16777216
    · unfold mkLst
      rw [if_pos q, if_neg Bool.false_ne_true]
      cases e : vals? ws with
      | none => exact .inl rfl
      | some ds =>
        refine .inr (.inl ⟨ds, ?_, rfl⟩)
        clear q
        induction ws generalizing ds with
        | nil => cases e; rfl
        | cons w ws ih =>
          cases w with
          | ref i => cases e
          | val d =>
            rw [vals?] at e
            cases e2 : vals? ws with
            | none => rw [e2] at e; cases e
            | some ds2 => rw [e2] at e; cases e; rw [ih ds2 e2, List.map_cons]
    · exact .inr (.inr q)
  have lst : kd = .l → gSl false x none (some (m : Int)) S = mkLst false (rows.take m) S := fun e => by
    subst e
    unfold gSl
    cases x with
    | val d =>
      cases d with
      | tup ds => unfold look at h; cases h
      | _ => first | (unfold look at h; cases h; done) | (dsimp only; rw [h]; dsimp only; rw [cut_take rows m hm2])
    | ref i => dsimp only; rw [h]; dsimp only; rw [cut_take rows m hm2]
  cases kd with
  | s => exact absurd rfl hk
  | t =>
    cases x with
    | ref i =>
      unfold look at h
      dsimp only at h
      split at h
      · cases h
      · cases h
    | val d =>
      cases d with
      | tup ds =>
        have e : rows = ds.map .val := (Prod.mk.inj (Option.some.inj h)).2.symm
        subst e
        rw [List.length_map] at hm2
        refine ⟨.val (.tup (ds.take m)), S, ?_, Ext.refl, .t, ?_⟩
        · unfold gSl
          dsimp only
          rw [cut_take ds m hm2]
        · unfold look
          dsimp only
          rw [List.map_take]
      | _ => unfold look at h; cases h
  | l =>
    rw [lst rfl]
    rcases cell (rows.take m) with q | ⟨ds, q1, q2⟩ | q
    · refine ⟨_, _, q, ⟨_, rfl⟩, .l, ?_⟩
      unfold look
      dsimp only
      rw [List.getElem?_append_right (Nat.le_refl _)]
      simp
    · refine ⟨_, _, q2, Ext.refl, .l, ?_⟩
      unfold look
      dsimp only
      rw [q1]
    · rw [List.length_take] at q; have := hr.len; omega
theorem v_told_pairs {S : Hs} {x : W} {kd : Sk} {rows : List W} {ps : List (Int × Int)} {tl : Int × Int} (h : look x S = some (kd, rows)) (hk : kd ≠ .s) (hr : RowsW S rows ps) (hl : ps.length < 16777216) :
    ∃ S', callV r_told_pairs [x, .val (prD tl)] S = .ok (.val (.tup ((trim ps tl).map prD))) S' ∧ Ext S S' := by
  refine call_grow rfl fun S0 hS => ?_
  obtain ⟨h, hr⟩ := rows_any hS h hr
  unfold x_told_pairs
  refine o_asg (x := .val (.int ps.length)) (S1 := S0) (e_cb (ws := [x]) rfl (by rw [len_look h, hr.len])) ?_
  refine o_seq ?_
  unfold esWhile
  refine o_while (fun m ρ S => S = S0 ∧ ρ = [some x, some (.val (prD tl)), some (.val (.int (m : Nat)))] ∧ m ≤ ps.length ∧ trimN ps tl ps.length = trimN ps tl m) (fun m ρ S hI => ?_) ps.length _ _ S0 (by omega) ⟨rfl, rfl, Nat.le_refl _, rfl⟩
  obtain ⟨rfl, rfl, hm, ht⟩ := hI
  cases m with
  | zero =>
    refine ⟨false, t_andF (t_v (e_bin rfl rfl (cmp_int ..))), fun _ => ?_, fun e => by cases e⟩
    obtain ⟨y, S', e1, e2, kd2, e3⟩ := sl_take h hk hr hl 0 (by omega)
    have r2 := (hr.take 0).ext e2
    refine o_ret (e_cb (ws := [y]) (S1 := S') (a_cons (us := []) ?_ rfl) (v_frozen e3 r2 (by simp))) ⟨S', ?_, e2⟩
    · exact e1
    · unfold trim
      rw [ht]; rfl
  | succ n =>
    have hn : n < ps.length := by omega
    have hn2 : n < rows.length := by rw [hr.len]; exact hn
    have hp : PairW S rows[n] ps[n] := hr.at_ n _ _ (List.getElem?_eq_getElem hn2) (List.getElem?_eq_getElem hn)
    have hi : ((n + 1 : Nat) : Int) - 1 = (n : Int) := by omega
    refine ⟨decide (ps[n] = tl), t_andT (t_v ?_) (t_v (e_bin (x := .val (prD ps[n])) (S1 := S) (e_cb (ws := [rows[n]]) (S1 := S) (a_cons (us := []) (e_bin (x := x) (y := .val (.int (n : Int))) (S1 := S) (S2 := S) rfl ?_ (ix_look h n (List.getElem?_eq_getElem hn2))) rfl) (tup_pair hp)) rfl (gEq_of (eq_pr ..)))), fun c => ?_, fun c => ?_⟩
    · refine (e_bin (x := .val (.int ((n + 1 : Nat) : Int))) rfl rfl (cmp_int ..)).trans ?_
      have : (0 : Int) < ((n + 1 : Nat) : Int) := by omega
      simp [this]
    · refine (e_bin (x := .val (.int ((n + 1 : Nat) : Int))) (y := .val (.int 1)) (S1 := S) (S2 := S) rfl rfl rfl).trans ?_
      rw [min_int, hi]
    · have hne : ps[n] ≠ tl := by simpa using c
      have e0 : trimN ps tl (n + 1) = n + 1 := by
        rw [trimN, List.getElem?_eq_getElem hn, if_neg (fun z => hne (Option.some.inj z))]
      obtain ⟨y, S', e1, e2, kd2, e3⟩ := sl_take h hk hr hl (n + 1) (by omega)
      have r2 := (hr.take (n + 1)).ext e2
      refine o_ret (e_cb (ws := [y]) (S1 := S') (a_cons (us := []) ?_ rfl) (v_frozen e3 r2 (by simp; omega))) ⟨S', ?_, e2⟩
      · exact e1
      · unfold trim
        rw [ht, e0]
    · have he : ps[n] = tl := by simpa using c
      refine ⟨n, rfl, o_asg (x := .val (.int (n : Int))) (S1 := S) ?_ (o_next ⟨rfl, rfl, by omega, ?_⟩)⟩
      · refine (e_bin (x := .val (.int ((n + 1 : Nat) : Int))) (y := .val (.int 1)) (S1 := S) (S2 := S) rfl rfl rfl).trans ?_
        rw [min_int, hi]
      · rw [ht, trimN, List.getElem?_eq_getElem hn, he, if_pos rfl]
end HT

set_option maxRecDepth 100000
set_option linter.all false
set_option Elab.async false
/-! A4: Numbers made, read by rank, compared. -/
namespace HT
open PySem G
theorem seqW_look {S : Hs} {x : W} {kd : Sk} {ws : List W} (h : look x S = some (kd, ws)) : seqW x S = some ws := by
  unfold seqW
  cases x with
  | val d => cases d <;> first | (unfold look at h; cases h; done) | (dsimp only; rw [h]; rfl)
  | ref i => dsimp only; rw [h]; rfl
section
variable {P : G.Env → Hs → Prop} {Q : RS → Prop} {ρ ρ1 : G.Env} {S S1 S2 S3 : Hs} {x y z : W} {ws us : List W}
theorem o_enum {v1 v2 : Nat} {body b : Es} {a : Ea} (I : Nat → G.Env → Hs → Prop) (ha : a ρ S = .ok [x] S1) (h0 : I 0 ρ S1) (hl : ∀ i ρ S, I i ρ S → ∃ kd, look x S = some (kd, ws))
    (hs : ∀ i w ρ S, ws[i]? = some w → I i ρ S → Out (I (i + 1)) Q (body ((ρ.set v1 (some (.val (.int (i : Nat))))).set v2 (some w)) S)) (he : ∀ ρ S, I ws.length ρ S → Out P Q (b ρ S)) :
    Out P Q (esSeq (esFor (eiEn a) (.row 2 (egCons (egName v1) (egCons (egName v2) egNil))) body) b ρ S) := by
  refine o_seq ?_
  have e : eiEn a ρ S = .ok ⟨ws.length, nxEn x⟩ S1 := by
    obtain ⟨kd, q⟩ := hl 0 ρ S1 h0
    unfold eiEn
    rw [ha]
    dsimp only [G.R.bind]
    rw [seqW_look q]
  rw [for_src e]
  refine o_loop I ws.length (fun i ρ S hk h => ?_) (fun ρ S h => ?_) ws.length 0 ρ S1 (by omega) h0
  · obtain ⟨kd, q⟩ := hl i ρ S h
    have e : ws[i]? = some ws[i] := List.getElem?_eq_getElem hk
    refine ⟨true, [.val (.int (i : Nat)), ws[i]], (ρ.set v1 (some (.val (.int (i : Nat))))).set v2 (some ws[i]), S, ?_, rfl, hs i ws[i] ρ S e h⟩
    show nxEn x i S = _
    unfold nxEn
    rw [seqW_look q]
    dsimp only
    rw [e]
  · obtain ⟨kd, q⟩ := hl _ ρ S h
    refine ⟨?_, he ρ S h⟩
    show nxEn x ws.length S = _
    unfold nxEn
    rw [seqW_look q]
    dsimp only
    rw [List.getElem?_eq_none (Nat.le_refl _)]
    dsimp only
    rw [if_pos rfl]
theorem o_fld {c f : Str} {o a : Ev} {b : Es} {d : G.D} {i : Nat} {fs : List (Str × G.D)} (ha : a ρ S = .ok (.val d) S1) (ho : o ρ S1 = .ok (.ref i) S2) (hc : S2[i]? = some (some (.ob c fs))) (hl : fs.length < 899)
    (k : Out P Q (b ρ (S2.set i (some (.ob c (putD f d fs)))))) : Out P Q (esSeq (esFld c f o a) b ρ S) := by
  have e : esFld c f o a ρ S = .nx ρ (S2.set i (some (.ob c (putD f d fs)))) := by
    unfold esFld
    rw [ha]
    dsimp only [G.R.thenS]
    rw [ho]
    dsimp only [G.R.thenS]
    rw [hc]
    dsimp only
    rw [if_pos ⟨rfl, hl⟩]
  rw [seq_nx e]
  exact k
end
def numD (ps : List (Int × Int)) (tl : Int × Int) : G.D := .obj "Numbers" [("tail", prD tl), ("pairs", .tup (ps.map prD))]
theorem set_app (S : Hs) (c d : Option Cell) (T : Hs) : (S ++ c :: T).set S.length d = S ++ d :: T := by
  rw [List.set_append_right _ _ (Nat.le_refl _)]
  simp
theorem get_app (S : Hs) (c : Option Cell) (T : Hs) : (S ++ c :: T)[S.length]? = some c := by
  rw [List.getElem?_append_right (Nat.le_refl _)]
  simp
theorem ext_app (S T : Hs) : Ext S (S ++ T) := ⟨T, rfl⟩
theorem put1 (d : G.D) : putD "tail" d [] = [(PySem.Str.ofString "tail", d)] := rfl
theorem put2 (d e : G.D) : putD "pairs" e [(PySem.Str.ofString "tail", d)] = [(PySem.Str.ofString "tail", d), (PySem.Str.ofString "pairs", e)] := by
  have h : ¬ ((PySem.Str.ofString "tail") = (PySem.Str.ofString "pairs")) := by decide +kernel
  show (if (PySem.Str.ofString "tail") = (PySem.Str.ofString "pairs") then _ else _) = _
  rw [if_neg h]; rfl
theorem fld_new (S : Hs) (T : Hs) (d : G.D) (ρ : G.Env) {a : Ev} (ha : a ρ (S ++ some (.ob "Numbers" [("tail", d)]) :: T) = .ok (.ref S.length) (S ++ some (.ob "Numbers" [("tail", d)]) :: T)) :
    evFld ["Numbers"] "tail" a ρ (S ++ some (.ob "Numbers" [("tail", d)]) :: T) = .ok (.val d) (S ++ some (.ob "Numbers" [("tail", d)]) :: T) := by
  unfold evFld
  refine e_un ha ?_
  dsimp only
  rw [get_app]
  dsimp only
  rw [if_pos (List.mem_singleton.mpr rfl)]
  rfl
theorem init_run {S : Hs} {px tx : W} {kd : Sk} {rows : List W} {ps : List (Int × Int)} {tl : Int × Int} (h : look px S = some (kd, rows)) (hk : kd ≠ .s) (hr : RowsW S rows ps) (hl : ps.length < 16777216) (ht : PairW S tx tl)
    (hq : ∀ p, p ∈ ps → 0 ≤ p.1) (h0 : 0 ≤ tl.1) :
    Out (fun _ S' => ∃ T, S' = S ++ some (.ob "Numbers" [("tail", prD tl), ("pairs", .tup ((trim ps tl).map prD))]) :: T) (fun _ => False) (x_Numbers___init__ (startE 5 [.ref S.length, px, tx]) (S ++ [some (.ob "Numbers" [])])) := by
  have x0 : Ext S (S ++ [some (.ob "Numbers" [])]) := ext_app _ _
  unfold x_Numbers___init__
  refine o_pass (t_not (c := true) (t_v (e_cb (ws := [px]) rfl (v_is_row (x0.look h))))) ?_
  refine o_enum (x := px) (ws := rows) (fun i ρ S' => S' = S ++ [some (.ob "Numbers" [])] ∧ ∃ a b, ρ = [some (.ref S.length), some px, some tx, a, b]) (S1 := S ++ [some (.ob "Numbers" [])]) rfl ⟨rfl, none, none, rfl⟩ (fun i ρ S' hI => ?_) (fun i w ρ S' e hI => ?_) (fun ρ S' hI => ?_)
  · obtain ⟨rfl, _⟩ := hI
    exact ⟨kd, x0.look h⟩
  · obtain ⟨rfl, a, b, rfl⟩ := hI
    have hi : i < rows.length := by
      rcases Nat.lt_or_ge i rows.length with z | z
      · exact z
      · rw [List.getElem?_eq_none z] at e; cases e
    have hi2 : i < ps.length := by rw [← hr.len]; exact hi
    have hp := (hr.at_ i w _ e (List.getElem?_eq_getElem hi2)).ext x0
    refine o_pass (t_not (c := true) (t_v (e_cb (ws := [w]) rfl (v_pair hp (hq _ (List.getElem_mem hi2)))))) (o_next ⟨rfl, _, _, rfl⟩)
  · obtain ⟨rfl, a, b, rfl⟩ := hI
    refine o_pass (t_not (c := true) (t_v (e_cb (ws := [tx]) rfl (v_pair (ht.ext x0) h0)))) ?_
    refine o_fld (d := prD tl) (i := S.length) (e_cb (ws := [tx]) rfl (tup_pair (ht.ext x0))) rfl (get_app S _ []) (by simp) ?_
    rw [set_app, put1]
    have x1 : Ext S (S ++ [some (.ob "Numbers" [("tail", prD tl)])]) := ext_app _ _
    obtain ⟨S', e1, T, e2⟩ := v_told_pairs (tl := tl) (x1.look h) hk (hr.ext x1) hl
    subst e2
    have e3 : S ++ [some (.ob "Numbers" [("tail", prD tl)])] ++ T = S ++ some (.ob "Numbers" [("tail", prD tl)]) :: T := by simp
    rw [e3] at e1
    refine o_fld (d := .tup ((trim ps tl).map prD)) (i := S.length) (S1 := S ++ some (.ob "Numbers" [("tail", prD tl)]) :: T) (e_cb (ws := [px, .val (prD tl)]) (S1 := S ++ [some (.ob "Numbers" [("tail", prD tl)])]) (a_cons (x := px) (us := [.val (prD tl)]) rfl (a_cons (us := []) (fld_new S [] _ _ rfl) rfl)) e1) rfl (get_app S _ T) (by simp) ?_
    rw [set_app, put2]
    exact o_next ⟨T, rfl⟩
theorem make_run {S : Hs} {px tx : W} {kd : Sk} {rows : List W} {ps : List (Int × Int)} {tl : Int × Int} (h : look px S = some (kd, rows)) (hk : kd ≠ .s) (hr : RowsW S rows ps) (hl : ps.length < 16777216) (ht : PairW S tx tl)
    (hq : ∀ p, p ∈ ps → 0 ≤ p.1) (h0 : 0 ≤ tl.1) : ∃ T, makeR "Numbers" r_Numbers___init__ [px, tx] S = .ok (.val (numD (trim ps tl) tl)) (S ++ none :: T) := by
  have z := init_run h hk hr hl ht hq h0
  have e0 : ∀ S0, r_Numbers___init__ [.ref S.length, px, tx] S0 = (x_Numbers___init__ (startE 5 [.ref S.length, px, tx]) S0).toR := fun _ => rfl
  unfold makeR
  rw [e0]
  cases e : x_Numbers___init__ (startE 5 [.ref S.length, px, tx]) (S ++ [some (.ob "Numbers" [])]) with
  | nx ρ S' =>
    rw [e] at z
    obtain ⟨T, rfl⟩ := z.o
    refine ⟨T, ?_⟩
    dsimp only [RS.toR]
    rw [get_app]
    dsimp only
    rw [if_pos rfl, set_app]
    rfl
  | rt w S' => rw [e] at z; exact z.o.elim
  | exc c fs ρ S' => rw [e] at z; exact z.o.elim
  | ct ρ S' => rw [e] at z; exact z.o.elim
  | bk ρ S' => rw [e] at z; exact z.o.elim
  | no => rw [e] at z; exact z.o.elim
/-- two arguments of which one or both are owned -/
theorem v_make {S : Hs} {px tx : W} {kd : Sk} {rows : List W} {ps : List (Int × Int)} {tl : Int × Int} (h : look px S = some (kd, rows)) (hk : kd ≠ .s) (hr : RowsW S rows ps) (hl : ps.length < 16777216) (ht : PairW S tx tl)
    (hq : ∀ p, p ∈ ps → 0 ≤ p.1) (h0 : 0 ≤ tl.1) : ∃ S', callV (makeR "Numbers" r_Numbers___init__) [px, tx] S = .ok (.val (numD (trim ps tl) tl)) S' ∧ Ext S S' := by
  unfold callV
  cases hv : vals? [px, tx] with
  | none =>
    obtain ⟨T, e⟩ := make_run h hk hr hl ht hq h0
    exact ⟨_, e, ext_app _ _⟩
  | some ds =>
    dsimp only
    obtain ⟨q1, q2⟩ := rows_any (S0 := []) (us := [tx]) (.inr ⟨ds, hv⟩) h hr
    have q3 : PairW [] tx tl := by
      obtain ⟨k2, h2⟩ := ht
      refine ⟨k2, ?_⟩
      cases tx with
      | val d => cases d <;> exact h2
      | ref i =>
        cases px with
        | val d => simp [vals?] at hv
        | ref j => cases hv
    obtain ⟨T, e⟩ := make_run q1 hk q2 hl q3 hq h0
    rw [e]
    exact ⟨S, rfl, Ext.refl⟩
theorem v_makeP {S : Hs} {px tx : G.D} {kd : Sk} {rows : List W} {ps : List (Int × Int)} {tl : Int × Int} (h : look (.val px) S = some (kd, rows)) (hk : kd ≠ .s) (hr : RowsW S rows ps) (hl : ps.length < 16777216) (ht : PairW S (.val tx) tl)
    (hq : ∀ p, p ∈ ps → 0 ≤ p.1) (h0 : 0 ≤ tl.1) : callV (makeR "Numbers" r_Numbers___init__) [.val px, .val tx] S = .ok (.val (numD (trim ps tl) tl)) S := by
  obtain ⟨S', e, _⟩ := v_make h hk hr hl ht hq h0
  exact call_same rfl e
/-! by rank -/
theorem v_rank_from (i j : Int) (S : Hs) (h : j ≤ i) : callV r_check_rank_from [.val (.int i), .val (.int j)] S = .ok (.val (.int i)) S := by
  refine call_of rfl rfl ?_
  unfold x_check_rank_from
  refine o_pass (S1 := []) (t_orF (t_not (c := true) (t_v (e_cb (ws := [.val (.int i)]) rfl (v_is_int_i ..)))) (t_v (e_bin rfl rfl ?_))) (o_ret rfl ⟨_, rfl⟩)
  have e : decide (i < j) = false := by simp; omega
  rw [cmp_int, e]
theorem v_any (i : Int) (S : Hs) (h : 0 ≤ i) : callV r_check_any_rank [.val (.int i)] S = .ok (.val (.int i)) S := by
  refine call_of rfl rfl ?_
  unfold x_check_any_rank
  exact o_ret (e_cb (ws := [.val (.int i), .val (.int 0)]) rfl (v_rank_from i 0 _ h)) ⟨_, rfl⟩
theorem v_number (n : Str) (i : Int) (S : Hs) (h : 0 ≤ i) : callV r_check_number [.val (.str n), .val (.int i), .val (.int 0)] S = .ok (.val (.int i)) S := by
  refine call_of rfl rfl ?_
  unfold x_check_number
  refine o_pass (t_not (c := true) (t_v (e_cb (ws := [.val (.int i)]) rfl (v_is_int_i ..)))) ?_
  refine o_pass (S1 := []) (t_andT (t_v rfl) (t_v (e_bin rfl rfl ?_))) (o_ret rfl ⟨_, rfl⟩)
  have e : decide (i < 0) = false := by simp; omega
  rw [cmp_int, e]
theorem e_pairs {ρ : G.Env} {S S1 : Hs} {a : Ev} {ps : List (Int × Int)} {tl : Int × Int} (ha : a ρ S = .ok (.val (numD ps tl)) S1) : evFld ["Numbers"] "pairs" a ρ S = .ok (.val (.tup (ps.map prD))) S1 := by
  unfold evFld
  exact e_un ha rfl
theorem e_tail {ρ : G.Env} {S S1 : Hs} {a : Ev} {ps : List (Int × Int)} {tl : Int × Int} (ha : a ρ S = .ok (.val (numD ps tl)) S1) : evFld ["Numbers"] "tail" a ρ S = .ok (.val (prD tl)) S1 := by
  unfold evFld
  exact e_un ha rfl
theorem look_tup (ds : List G.D) (S : Hs) : look (.val (.tup ds)) S = some (.t, ds.map .val) := rfl
theorem ps_at {ps : List (Int × Int)} {n : Nat} (h : n < ps.length) : ((ps.map prD).map W.val)[n]? = some (.val (prD ps[n])) := by
  rw [List.map_map, List.getElem?_map, List.getElem?_eq_getElem h]; rfl
theorem v_get (ps : List (Int × Int)) (tl : Int × Int) (n : Nat) (S : Hs) : callV r_Numbers___getitem__ [.val (numD ps tl), .val (.int (n : Nat))] S = .ok (.val (prD (atP ps tl n))) S := by
  refine call_of rfl rfl ?_
  unfold x_Numbers___getitem__
  refine o_drop (e_cb (ws := [.val (.int (n : Nat))]) rfl (v_any _ _ (by omega))) ?_
  refine o_ret (x := .val (prD (atP ps tl n))) (S1 := []) (e_if (c := decide ((n : Int) < (ps.length : Int))) (S1 := []) (t_v (e_bin (x := .val (.int (n : Nat))) (S1 := []) rfl (e_cb (ws := [.val (.tup (ps.map prD))]) (a_cons (us := []) (e_pairs rfl) rfl) (len_look (look_tup ..))) ?_)) (fun c => ?_) (fun c => ?_)) ⟨_, rfl⟩
  · rw [cmp_int, List.length_map, List.length_map]
  · have q : n < ps.length := by have := of_decide_eq_true c; omega
    refine e_bin (e_pairs rfl) rfl ?_
    rw [ix_look (look_tup ..) n (ps_at q)]
    unfold atP
    rw [List.getElem?_eq_getElem q]
    rfl
  · have q : ¬ n < ps.length := by have := of_decide_eq_false c; omega
    refine (e_tail rfl).trans ?_
    unfold atP
    rw [List.getElem?_eq_none (by omega)]
    rfl
theorem e_at {ρ : G.Env} {S S1 S2 : Hs} {a b : Ev} {ps : List (Int × Int)} {tl : Int × Int} {n : Nat} (ha : a ρ S = .ok (.val (numD ps tl)) S1) (hb : b ρ S1 = .ok (.val (.int (n : Nat))) S2) : evSubO "Numbers" r_Numbers___getitem__ a b ρ S = .ok (.val (prD (atP ps tl n))) S2 :=
  e_sub ha hb (v_get ..)
/-! equal numbers -/
theorem v_eq (ps qs : List (Int × Int)) (tl ul : Int × Int) (S : Hs) : callV r_Numbers___eq__ [.val (numD ps tl), .val (numD qs ul)] S = .ok (.val (.bl (decide (ps = qs) && decide (tl = ul)))) S := by
  refine call_of rfl rfl ?_
  unfold x_Numbers___eq__
  refine o_ret (S1 := []) (e_and (c := true) (d := decide (ps = qs) && decide (tl = ul)) rfl fun _ => e_and (c := decide (ps = qs)) (d := decide (tl = ul)) ?_ fun _ => ?_) ⟨[], ?_⟩
  · exact e_bin (e_pairs rfl) (e_pairs rfl) (gEq_of (eq_prs ..))
  · exact e_bin (e_tail rfl) (e_tail rfl) (gEq_of (eq_pr ..))
  · rw [Bool.true_and]
theorem own_eq (neg : Bool) (ps qs : List (Int × Int)) (tl ul : Int × Int) (S : Hs) : gOwnEq neg "Numbers" T_any_Numbers r_Numbers___eq__ (.val (numD ps tl)) (.val (numD qs ul)) S = .ok (.val (.bl (if neg = true then !(decide (ps = qs) && decide (tl = ul)) else (decide (ps = qs) && decide (tl = ul))))) S := by
  have e : callN r_Numbers___eq__ [.val (numD ps tl), .val (numD qs ul)] S = .ok (.val (.bl (decide (ps = qs) && decide (tl = ul)))) S := by
    unfold callN
    rw [v_eq]
  show (match (callN r_Numbers___eq__ [.val (numD ps tl), .val (numD qs ul)] S : G.R W) with
      | .ok (W.val (.bl b)) S' => G.R.ok (W.val (.bl (if neg = true then !b else b))) S'
      | _ => G.R.no) = _
  rw [e]
end HT

set_option maxRecDepth 100000
set_option linter.all false
set_option Elab.async false
/-! A5: gains and their first zeros, by the program and by the law. -/
namespace HT
open PySem G
theorem sz_log {e : Nat} {i : Int} (h : Sz e i) : i.natAbs.log2 ≤ e := by
  by_cases q : i.natAbs = 0
  · rw [q]; exact Nat.zero_le _
  · exact Nat.le_of_lt ((Nat.log2_lt q).mpr h)
theorem cm_of {e f : Nat} {i j : Int} (h : Sz e i) (k : Sz f j) (l : e + f < 1000000) : L2.CMulW i j := by
  have h1 := sz_log h
  have h2 := sz_log k
  unfold L2.CMulW
  omega
theorem mul_ok {own : Bool} {i j : Int} {S : Hs} (h : L2.CMulW i j) : gMul own (.val (.int i)) (.val (.int j)) S = .ok (.val (.int (i * j))) S := if_pos h
theorem e_bm {c : W → Hs → Bool} {g : W → List W → Hs → G.R W} {a : Ev} {b : Ea} {ρ : G.Env} {S S1 S2 : Hs} {x : W} {ws : List W} {r : G.R W} (ha : a ρ S = .ok x S1) (hc : c x S1 = true) (hb : b ρ S1 = .ok ws S2) (hg : g x ws S2 = r) : evBM c g a b ρ S = r := by
  unfold evBM
  rw [ha]
  dsimp only [G.R.bind]
  rw [if_pos hc, hb]
  exact hg
abbrev wI (i : Int) : W := .val (.int i)
theorem ix0 (p : Int × Int) (S : Hs) : gIx (.val (prD p)) (.val (.int 0)) S = .ok (wI p.1) S := rfl
theorem ix1 (p : Int × Int) (S : Hs) : gIx (.val (prD p)) (.val (.int 1)) S = .ok (wI p.2) S := rfl
theorem v_gain (ps : List (Int × Int)) (tl : Int × Int) (b : Bd (atP ps tl)) (s k : Nat) (hs : s + k ≤ 1000) (S : Hs) :
    callV r_Numbers_gain [.val (numD ps tl), wI (s : Nat), wI (k : Nat)] S = .ok (wI (gnA (atP ps tl) s k)) S := by
  refine call_of rfl rfl ?_
  unfold x_Numbers_gain
  refine o_drop (e_cb (ws := [wI (s : Nat)]) rfl (v_any _ _ (by omega))) ?_
  refine o_drop (e_cb (ws := [.val (.str _), wI (k : Nat), wI 0]) rfl (v_number _ _ _ (by omega))) ?_
  refine o_asg (x := wI 0) (S1 := []) rfl ?_
  refine o_rng2 (s := s) (k := k) (e := (s : Int) + (k : Int)) (fun i ρ S => S = [] ∧ ∃ u v w, ρ = [some (.val (numD ps tl)), some (wI (s : Nat)), some (wI (k : Nat)), some (wI (gnA (atP ps tl) s i)), u, v, w]) (S1 := []) rfl (by omega) (by omega) (by omega) ⟨rfl, none, none, none, rfl⟩ (fun i ρ S hi hI => ?_) (fun ρ S hI => ?_)
  · obtain ⟨rfl, u, v, w, rfl⟩ := hI
    refine o_asg2 (e_at (n := s + i) rfl rfl) ?_
    refine o_asg (x := wI (gnA (atP ps tl) s (i + 1))) (S1 := []) ?_ (o_next ⟨rfl, _, _, _, rfl⟩)
    exact e_bin (e_bin rfl rfl (mul_ok (cm_of (b (s + i)).1 (gn_sz _ b s i) (by omega)))) rfl rfl
  · obtain ⟨rfl, u, v, w, rfl⟩ := hI
    exact o_ret (x := wI (gnA (atP ps tl) s k)) (S1 := []) rfl ⟨_, rfl⟩
theorem v_swaps (ps : List (Int × Int)) (tl : Int × Int) (b : Bd (atP ps tl)) (s k : Nat) (hs : s + k ≤ 1000) (S : Hs) :
    callV r_Numbers_swaps [.val (numD ps tl), wI (s : Nat), wI (k : Nat)] S = .ok (wI (swA (atP ps tl) s k)) S := by
  refine call_of rfl rfl ?_
  unfold x_Numbers_swaps
  refine o_drop (e_cb (ws := [wI (s : Nat)]) rfl (v_any _ _ (by omega))) ?_
  refine o_drop (e_cb (ws := [.val (.str _), wI (k : Nat), wI 0]) rfl (v_number _ _ _ (by omega))) ?_
  refine o_asg (x := wI 1) (S1 := []) rfl ?_
  refine o_rng2 (s := s) (k := k) (e := (s : Int) + (k : Int)) (fun i ρ S => S = [] ∧ ∃ u, ρ = [some (.val (numD ps tl)), some (wI (s : Nat)), some (wI (k : Nat)), some (wI (swA (atP ps tl) s i)), u]) (S1 := []) rfl (by omega) (by omega) (by omega) ⟨rfl, none, rfl⟩ (fun i ρ S hi hI => ?_) (fun ρ S hI => ?_)
  · obtain ⟨rfl, u, rfl⟩ := hI
    refine o_asg (x := wI (swA (atP ps tl) s (i + 1))) (S1 := []) ?_ (o_next ⟨rfl, _, rfl⟩)
    exact e_bin (x := wI (swA (atP ps tl) s i)) rfl (e_bin (e_at (n := s + i) rfl rfl) rfl (ix0 ..)) (mul_ok (cm_of (sw_sz _ b s i) (b (s + i)).1 (by omega)))
  · obtain ⟨rfl, u, rfl⟩ := hI
    exact o_ret (x := wI (swA (atP ps tl) s k)) (S1 := []) rfl ⟨_, rfl⟩
theorem v_gains (ps : List (Int × Int)) (tl : Int × Int) (b : Bd (atP ps tl)) (s k : Nat) (hs : s + k ≤ 60) (S : Hs) :
    callV r_Numbers_gains [.val (numD ps tl), wI (s : Nat), wI (k : Nat)] S = .ok (wI (gsA (atP ps tl) s k)) S := by
  refine call_of rfl rfl ?_
  unfold x_Numbers_gains
  refine o_drop (e_cb (ws := [wI (s : Nat)]) rfl (v_any _ _ (by omega))) ?_
  refine o_drop (e_cb (ws := [.val (.str _), wI (k : Nat), wI 0]) rfl (v_number _ _ _ (by omega))) ?_
  refine o_asg (x := wI 0) (S1 := []) rfl ?_
  refine o_asg (x := wI 1) (S1 := []) rfl ?_
  refine o_rng2 (s := s) (k := k) (e := (s : Int) + (k : Int)) (fun i ρ S => S = [] ∧ ∃ u v w, ρ = [some (.val (numD ps tl)), some (wI (s : Nat)), some (wI (k : Nat)), some (wI (gnA (atP ps tl) s i)), some (wI (gsA (atP ps tl) s i)), u, v, w]) (S1 := []) rfl (by omega) (by omega) (by omega) ⟨rfl, none, none, none, rfl⟩ (fun i ρ S hi hI => ?_) (fun ρ S hI => ?_)
  · obtain ⟨rfl, u, v, w, rfl⟩ := hI
    have hm : i * (41 + 42 * i) ≤ 60 * (41 + 42 * 60) := Nat.mul_le_mul (by omega) (by omega)
    refine o_asg2 (e_at (n := s + i) rfl rfl) ?_
    refine o_asg (x := wI (gnA (atP ps tl) s (i + 1))) (S1 := []) ?_ ?_
    · exact e_bin (e_bin rfl rfl (mul_ok (cm_of (b (s + i)).1 (gn_sz _ b s i) (by omega)))) rfl rfl
    refine o_asg (x := wI (gsA (atP ps tl) s (i + 1))) (S1 := []) ?_ (o_next ⟨rfl, _, _, _, rfl⟩)
    exact e_bin (x := wI (gsA (atP ps tl) s i)) rfl rfl (mul_ok (cm_of (gs_sz _ b s i) (gn_sz _ b s (i + 1)) (by omega)))
  · obtain ⟨rfl, u, v, w, rfl⟩ := hI
    exact o_ret (x := wI (gsA (atP ps tl) s k)) (S1 := []) rfl ⟨_, rfl⟩
/-! the law's own sums -/
theorem ps_look {S : Hs} {x : W} {ps : List (Int × Int)} {n : Nat} (h : PsW S x ps) (q : n < ps.length) : gIx x (wI (n : Nat)) S = .ok (.val (prD ps[n])) S := ix_look h n (ps_at q)
theorem v_law_at {S : Hs} {x : W} {ps : List (Int × Int)} (h : PsW S x ps) (tl : Int × Int) (n : Nat) : callV r__law_at [x, .val (prD tl), wI (n : Nat)] S = .ok (.val (prD (atP ps tl n))) S := by
  refine call_any rfl fun S0 hS => ?_
  have h : PsW S0 x ps := (look_any hS).trans h
  unfold x__law_at
  refine o_if (c := decide ((n : Int) < (ps.length : Int))) (S1 := S0) (t_v (e_bin (x := wI (n : Nat)) (S1 := S0) rfl (e_cb (ws := [x]) rfl (len_look h)) ?_)) (fun c => ?_) (fun c => ?_)
  · rw [cmp_int, List.length_map, List.length_map]
  · have q : n < ps.length := by have := of_decide_eq_true c; omega
    refine o_ret (x := .val (prD (atP ps tl n))) (S1 := S0) (e_bin (x := x) rfl rfl ?_) rfl
    rw [ps_look h q]
    unfold atP
    rw [List.getElem?_eq_getElem q]
    rfl
  · have q : ¬ n < ps.length := by have := of_decide_eq_false c; omega
    refine o_next (o_ret (x := .val (prD tl)) (S1 := S0) rfl ?_)
    unfold atP
    rw [List.getElem?_eq_none (by omega)]
    rfl
theorem v_law_sum {S : Hs} {x : W} {ps : List (Int × Int)} {tl : Int × Int} (h : PsW S x ps) (b : Bd (atP ps tl)) (s k : Nat) (hs : s + k ≤ 1000) : callV r__law_sum [x, .val (prD tl), wI (s : Nat), wI (k : Nat)] S = .ok (wI (gnA (atP ps tl) s k)) S := by
  refine call_any rfl fun S0 hS => ?_
  have h : PsW S0 x ps := (look_any hS).trans h
  unfold x__law_sum
  refine o_asg (x := wI 0) (S1 := S0) rfl ?_
  refine o_rng2 (s := s) (k := k) (e := (s : Int) + (k : Int)) (fun i ρ S => S = S0 ∧ ∃ u v w, ρ = [some x, some (.val (prD tl)), some (wI (s : Nat)), some (wI (k : Nat)), some (wI (outA (atP ps tl) s k i)), u, v, w]) (S1 := S0) rfl (by omega) (by omega) (by omega) ⟨rfl, none, none, none, rfl⟩ (fun i ρ S hi hI => ?_) (fun ρ S hI => ?_)
  · obtain ⟨rfl, u, v, w, rfl⟩ := hI
    refine o_asg (x := wI (inA (atP ps tl) (s + i) 0)) (S1 := S) (e_bin (e_cb (ws := [x, .val (prD tl), wI ((s + i : Nat) : Int)]) rfl (v_law_at h tl (s + i))) rfl (ix1 ..)) ?_
    refine o_rng2 (s := s + i + 1) (k := k - 1 - i) (e := (s : Int) + (k : Int)) (fun m ρ S' => S' = S ∧ ∃ w, ρ = [some x, some (.val (prD tl)), some (wI (s : Nat)), some (wI (k : Nat)), some (wI (outA (atP ps tl) s k i)), some (wI ((s + i : Nat) : Int)), some (wI (inA (atP ps tl) (s + i) m)), w]) (S1 := S) rfl (by omega) (by omega) (by omega) ⟨rfl, w, rfl⟩ (fun m ρ S' hm hI => ?_) (fun ρ S' hI => ?_)
    · obtain ⟨rfl, w, rfl⟩ := hI
      refine o_asg (x := wI (inA (atP ps tl) (s + i) (m + 1))) (S1 := S') ?_ (o_next ⟨rfl, _, rfl⟩)
      exact e_bin (x := wI (inA (atP ps tl) (s + i) m)) rfl (e_bin (e_cb (ws := [x, .val (prD tl), wI ((s + i + 1 + m : Nat) : Int)]) rfl (v_law_at h tl (s + i + 1 + m))) rfl (ix0 ..)) (mul_ok (cm_of (in_sz _ b (s + i) m) (b _).1 (by omega)))
    · obtain ⟨rfl, w, rfl⟩ := hI
      exact o_aug (x := wI (outA (atP ps tl) s k i)) (y := wI (inA (atP ps tl) (s + i) (k - 1 - i))) (z := wI (outA (atP ps tl) s k (i + 1))) (S1 := S') (S2 := S') rfl rfl rfl (o_next ⟨rfl, _, _, _, rfl⟩)
  · obtain ⟨rfl, u, v, w, rfl⟩ := hI
    refine o_ret (x := wI (gnA (atP ps tl) s k)) (S1 := S) ?_ rfl
    rw [← out_eq]
    rfl
/-! the first gains that are such -/
def optD : Option Nat → G.D
  | some k => .int (k : Nat)
  | none => .non
theorem v_first_not_above (ps : List (Int × Int)) (tl : Int × Int) (b : Bd (atP ps tl)) (s k : Nat) (hs : s + k ≤ 1000) (S : Hs) :
    callV r_first_not_above [.val (numD ps tl), wI (s : Nat), wI ((s + k : Nat) : Int)] S = .ok (.val (optD (fUp (atP ps tl) (fun g => decide (g ≤ 0)) s k))) S := by
  refine call_of rfl rfl ?_
  unfold x_first_not_above
  refine o_drop (e_cb (ws := [wI (s : Nat)]) rfl (v_any _ _ (by omega))) ?_
  refine o_drop (e_cb (ws := [wI ((s + k : Nat) : Int), wI (s : Nat)]) rfl (v_rank_from _ _ _ (by omega))) ?_
  refine o_asg (x := wI 0) (S1 := []) rfl ?_
  refine o_rng2 (s := s) (k := k) (e := ((s + k : Nat) : Int)) (fun i ρ S => S = [] ∧ fUp (atP ps tl) (fun g => decide (g ≤ 0)) s i = none ∧ ∃ u v w, ρ = [some (.val (numD ps tl)), some (wI (s : Nat)), some (wI ((s + k : Nat) : Int)), some (wI (gnA (atP ps tl) s i)), u, v, w]) (S1 := []) rfl (by omega) (by omega) (by omega) ⟨rfl, rfl, none, none, none, rfl⟩ (fun i ρ S hi hI => ?_) (fun ρ S hI => ?_)
  · obtain ⟨rfl, hn, u, v, w, rfl⟩ := hI
    refine o_asg2 (e_at (n := s + i) rfl rfl) ?_
    refine o_asg (x := wI (gnA (atP ps tl) s (i + 1))) (S1 := []) ?_ ?_
    · exact e_bin (e_bin rfl rfl (mul_ok (cm_of (b (s + i)).1 (gn_sz _ b s i) (by omega)))) rfl rfl
    refine o_if (c := decide (gnA (atP ps tl) s (i + 1) ≤ 0)) (S1 := []) (t_v (e_bin (x := wI (gnA (atP ps tl) s (i + 1))) (y := wI 0) rfl rfl (cmp_int ..))) (fun c => ?_) (fun c => ?_)
    · refine o_ret (x := .val (.int ((((s + i : Nat) : Int) + 1) - (s : Int)))) (S1 := []) rfl ⟨[], ?_⟩
      rw [fUp_hit _ hn c hi]
      have e : (((s + i : Nat) : Int) + 1) - (s : Int) = ((i + 1 : Nat) : Int) := by omega
      rw [e]; rfl
    · exact o_next (o_next ⟨rfl, fUp_miss _ hn c, _, _, _, rfl⟩)
  · obtain ⟨rfl, hn, u, v, w, rfl⟩ := hI
    refine o_ret (x := .val .non) (S1 := []) rfl ⟨[], ?_⟩
    rw [hn]; rfl
theorem v_last_alive (ps : List (Int × Int)) (tl : Int × Int) (b : Bd (atP ps tl)) (s k : Nat) (hs : s + k ≤ 1000) (S : Hs) :
    callV r_last_alive [.val (numD ps tl), wI (s : Nat), wI ((s + k : Nat) : Int)] S = .ok (wI (match fUp (atP ps tl) (fun g => decide (g = 0)) s k with
      | some n => (s : Int) + (n : Int) - 1
      | none => ((s + k : Nat) : Int))) S := by
  refine call_of rfl rfl ?_
  unfold x_last_alive
  refine o_drop (e_cb (ws := [wI (s : Nat)]) rfl (v_any _ _ (by omega))) ?_
  refine o_drop (e_cb (ws := [wI ((s + k : Nat) : Int), wI (s : Nat)]) rfl (v_rank_from _ _ _ (by omega))) ?_
  refine o_asg (x := wI 0) (S1 := []) rfl ?_
  refine o_rng2 (s := s) (k := k) (e := ((s + k : Nat) : Int)) (fun i ρ S => S = [] ∧ fUp (atP ps tl) (fun g => decide (g = 0)) s i = none ∧ ∃ u v w, ρ = [some (.val (numD ps tl)), some (wI (s : Nat)), some (wI ((s + k : Nat) : Int)), some (wI (gnA (atP ps tl) s i)), u, v, w]) (S1 := []) rfl (by omega) (by omega) (by omega) ⟨rfl, rfl, none, none, none, rfl⟩ (fun i ρ S hi hI => ?_) (fun ρ S hI => ?_)
  · obtain ⟨rfl, hn, u, v, w, rfl⟩ := hI
    refine o_asg2 (e_at (n := s + i) rfl rfl) ?_
    refine o_asg (x := wI (gnA (atP ps tl) s (i + 1))) (S1 := []) ?_ ?_
    · exact e_bin (e_bin rfl rfl (mul_ok (cm_of (b (s + i)).1 (gn_sz _ b s i) (by omega)))) rfl rfl
    refine o_if (c := decide (gnA (atP ps tl) s (i + 1) = 0)) (S1 := []) (t_v (e_bin (x := wI (gnA (atP ps tl) s (i + 1))) (y := wI 0) rfl rfl (gEq_int ..))) (fun c => ?_) (fun c => ?_)
    · refine o_ret (x := .val (.int ((s + i : Nat) : Int))) (S1 := []) rfl ⟨[], ?_⟩
      rw [fUp_hit _ hn c hi]
      have e : ((s + i : Nat) : Int) = (s : Int) + ((i + 1 : Nat) : Int) - 1 := by omega
      rw [e]
    · exact o_next (o_next ⟨rfl, fUp_miss _ hn c, _, _, _, rfl⟩)
  · obtain ⟨rfl, hn, u, v, w, rfl⟩ := hI
    refine o_ret (x := wI ((s + k : Nat) : Int)) (S1 := []) rfl ⟨[], ?_⟩
    rw [hn]
theorem v_law_first {S : Hs} {x : W} {ps : List (Int × Int)} {tl : Int × Int} (h : PsW S x ps) (b : Bd (atP ps tl)) (s k : Nat) (hs : s + k ≤ 1000) (z : Str) (ab : Bool) (hz : ∀ S, gEq (.val (.str z)) (.val (.str (PySem.Str.ofString "above"))) S = .ok (.val (.bl ab)) S) :
    callV r__law_first [x, .val (prD tl), wI (s : Nat), wI ((s + k : Nat) : Int), .val (.str z)] S = .ok (.val (optD (fUp (atP ps tl) (fun g => decide (g = 0) || (ab && decide (g < 0))) s k))) S := by
  refine call_any rfl fun S0 hS => ?_
  have h : PsW S0 x ps := (look_any hS).trans h
  unfold x__law_first
  refine o_rng2 (s := 1) (k := k) (e := ((s + k : Nat) : Int) - (s : Int) + 1) (fun i ρ S => S = S0 ∧ fUp (atP ps tl) (fun g => decide (g = 0) || (ab && decide (g < 0))) s i = none ∧ ∃ u v, ρ = [some x, some (.val (prD tl)), some (wI (s : Nat)), some (wI ((s + k : Nat) : Int)), some (.val (.str z)), u, v]) (S1 := S0) rfl (by omega) (by omega) (by omega) ⟨rfl, rfl, none, none, rfl⟩ (fun i ρ S hi hI => ?_) (fun ρ S hI => ?_)
  · obtain ⟨rfl, hn, u, v, rfl⟩ := hI
    have e1 : 1 + i = i + 1 := by omega
    refine o_asg (x := wI (gnA (atP ps tl) s (i + 1))) (S1 := S) (e_cb (ws := [x, .val (prD tl), wI (s : Nat), wI ((i + 1 : Nat) : Int)]) (by rw [e1]; rfl) (v_law_sum h b s (i + 1) (by omega))) ?_
    refine o_if (c := decide (gnA (atP ps tl) s (i + 1) = 0) || (ab && decide (gnA (atP ps tl) s (i + 1) < 0))) (S1 := S) (t_or (t_v (e_bin (x := wI (gnA (atP ps tl) s (i + 1))) (y := wI 0) rfl rfl (gEq_int ..))) fun _ => t_and (t_v (e_bin (x := .val (.str z)) rfl rfl (hz S))) fun _ => t_v (e_bin (x := wI (gnA (atP ps tl) s (i + 1))) (y := wI 0) rfl rfl (cmp_int ..))) (fun c => ?_) (fun c => ?_)
    · refine o_ret (x := .val (.int ((1 + i : Nat) : Int))) (S1 := S) rfl ?_
      rw [fUp_hit _ hn c hi, e1]
      rfl
    · exact o_next (o_next ⟨rfl, fUp_miss _ hn c, _, _, rfl⟩)
  · obtain ⟨rfl, hn, u, v, rfl⟩ := hI
    refine o_ret (x := .val .non) (S1 := S) rfl ?_
    rw [hn]; rfl
/-! the first pair of rank and steps whose gain is 0 -/
def deadD : Option (Nat × Nat) → G.D
  | some p => .tup [.int (p.1 : Nat), .int (p.2 : Nat)]
  | none => .non
theorem flat_ints (xs : List Int) : allSome flatD ((xs.map G.D.int).map .val) = some (xs.map L2.V.int) := by
  induction xs with
  | nil => rfl
  | cons x xs ih => rw [List.map_cons, List.map_cons, allSome, ih]; rfl
theorem first_fz : ∀ xs : List Int, firstV (.int 0) (xs.map L2.V.int) = fz0 xs := by
  intro xs
  induction xs with
  | nil => rfl
  | cons x xs ih =>
    rw [List.map_cons, firstV, fz0, ih]
    by_cases q : x = 0
    · subst q; rfl
    · have : L2.eqV (.int x) (.int 0) = false := by
        show (x == 0) = false
        simpa using q
      rw [this, if_neg Bool.false_ne_true, if_neg q]
theorem in_fz : ∀ xs : List Int, L2.inV (.int 0) (xs.map L2.V.int) = (fz0 xs).isSome := by
  intro xs
  induction xs with
  | nil => rfl
  | cons x xs ih =>
    unfold L2.inV at ih ⊢
    rw [List.map_cons, List.any_cons, ih, fz0]
    by_cases q : x = 0
    · subst q; rfl
    · have : L2.eqV (.int x) (.int 0) = false := by
        show (x == 0) = false
        simpa using q
      rw [this, if_neg q]
      cases fz0 xs <;> rfl
theorem row_in (xs : List Int) (S : Hs) : gIn false (wI 0) (.val (.lst (xs.map G.D.int))) S = .ok (.val (.bl (fz0 xs).isSome)) S := by
  show (match allSome flatD ((xs.map G.D.int).map .val) with
    | some vs => G.R.ok (W.val (.bl (if false = true then !L2.inV (.int 0) vs else L2.inV (.int 0) vs))) S
    | none => .no) = _
  rw [flat_ints]
  dsimp only
  rw [if_neg Bool.false_ne_true, in_fz]
theorem row_index {xs : List Int} {k : Nat} (h : fz0 xs = some k) (S : Hs) : gIndex (.val (.lst (xs.map G.D.int))) [wI 0] S = .ok (wI (k : Nat)) S := by
  show (match some (L2.V.int 0), allSome flatD ((xs.map G.D.int).map .val) with
      | some v, some vs => match firstV v vs with
        | some j => G.R.ok (W.val (.int (j : Nat))) S
        | none => .no
      | _, _ => .no) = _
  rw [flat_ints]
  dsimp only
  rw [first_fz, h]
theorem v_dead_pair (ps : List (Int × Int)) (tl : Int × Int) (b : Bd (atP ps tl)) (k : Nat) (hs : k ≤ 1000) (S : Hs) :
    callV r_Numbers_dead_pair [.val (numD ps tl), wI (k : Nat)] S = .ok (.val (deadD (dUp (atP ps tl) k))) S := by
  refine call_of rfl rfl ?_
  unfold x_Numbers_dead_pair
  refine o_drop (e_cb (ws := [wI (k : Nat)]) rfl (v_any _ _ (by omega))) ?_
  refine o_asg (x := .val (.lst [])) (S1 := []) rfl ?_
  refine o_rng1 (k := k) (fun i ρ S => S = [] ∧ dUp (atP ps tl) i = none ∧ ∃ u v w z t, ρ = [some (.val (numD ps tl)), some (wI (k : Nat)), some (.val (.lst ((rowA (atP ps tl) i).map G.D.int))), u, v, w, z, t]) (S1 := []) rfl (by omega) ⟨rfl, rfl, none, none, none, none, none, rfl⟩ (fun i ρ S hi hI => ?_) (fun ρ S hI => ?_)
  · obtain ⟨rfl, hn, u, v, w, z, t, rfl⟩ := hI
    refine o_asg2 (e_at (n := i) rfl rfl) ?_
    have hl : (rowA (atP ps tl) i).length = i := by unfold rowA; simp
    have lc : ∀ ρ : G.Env, ρ = [some (.val (numD ps tl)), some (wI (k : Nat)), some (.val (.lst ((rowA (atP ps tl) i).map G.D.int))), some (wI (i : Nat)), some (wI (atP ps tl i).1), some (wI (atP ps tl i).2), z, t] →
        evLc false [7] (eiSeq (evVar 2)) (.one (egName 7)) etYes (evBin (gAdd false) (evBin (gMul false) (evVar 4) (evVar 7)) (evVar 5)) ρ [] = .ok (.val (.lst (((rowA (atP ps tl) i).map fun one => (atP ps tl i).1 * one + (atP ps tl i).2).map G.D.int))) [] := by
      intro ρ hρ
      subst hρ
      refine (e_lcsY (x := .val (.lst ((rowA (atP ps tl) i).map G.D.int))) (kd := .l) (ws := ((rowA (atP ps tl) i).map G.D.int).map .val) (S1 := []) rfl rfl (by simp [hl]; omega) (g := fun w => match w with
        | .val (.int one) => wI ((atP ps tl i).1 * one + (atP ps tl i).2)
        | w => w) fun w hw => ?_).trans ?_
      · obtain ⟨d, hd, rfl⟩ := List.mem_map.mp hw
        obtain ⟨one, ho, rfl⟩ := List.mem_map.mp hd
        obtain ⟨st, hst, rfl⟩ := List.mem_map.mp ho
        have hst := List.mem_range.mp hst
        exact e_bin (e_bin (x := wI (atP ps tl i).1) (y := wI _) rfl rfl (mul_ok (cm_of (b i).1 (gn_sz _ b st (i - st)) (by omega)))) rfl rfl
      · have e : (((rowA (atP ps tl) i).map G.D.int).map W.val).map (fun w => match w with
          | .val (.int one) => wI ((atP ps tl i).1 * one + (atP ps tl i).2)
          | w => w) = (((rowA (atP ps tl) i).map fun one => (atP ps tl i).1 * one + (atP ps tl i).2).map G.D.int).map .val := by
          rw [List.map_map, List.map_map, List.map_map, List.map_map]; rfl
        rw [e]
        exact mk_plain (by simp [hl]; omega)
    refine o_asg (x := .val (.lst ((rowA (atP ps tl) (i + 1)).map G.D.int))) (S1 := []) (e_bin (S1 := []) (S2 := []) (y := .val (.lst [.int (atP ps tl i).2])) (lc _ rfl) rfl ?_) ?_
    · show mkLst false ((((rowA (atP ps tl) i).map fun one => (atP ps tl i).1 * one + (atP ps tl i).2).map G.D.int).map W.val ++ [G.D.int (atP ps tl i).2].map W.val) [] = _
      rw [← List.map_append, mk_plain (by simp [hl]; omega), row_more, List.map_append]
      rfl
    have hf := fz_rowA (atP ps tl) (i + 1)
    refine o_if (c := (fz0 (rowA (atP ps tl) (i + 1))).isSome) (S1 := []) (t_v (e_bin (x := wI 0) (y := .val (.lst ((rowA (atP ps tl) (i + 1)).map G.D.int))) rfl rfl (row_in ..))) (fun c => ?_) (fun c => ?_)
    · obtain ⟨st, hst⟩ := Option.isSome_iff_exists.mp c
      refine o_asg (x := wI (st : Nat)) (S1 := []) ?_ ?_
      · exact e_bm (x := .val (.lst ((rowA (atP ps tl) (i + 1)).map G.D.int))) rfl rfl rfl (row_index hst [])
      · refine o_ret (x := .val (.tup [.int (st : Nat), .int (((i : Int) + 1) - (st : Int))])) (S1 := []) rfl ⟨[], ?_⟩
        have hlt : st < i + 1 := by
          rw [hf] at hst
          have key : ∀ n m k, fzA (atP ps tl) n m = some k → k < m := by
            intro n m
            induction m with
            | zero => intro k h; cases h
            | succ m ih =>
              intro k h
              rw [fzA] at h
              cases e : fzA (atP ps tl) n m with
              | some j => rw [e] at h; have h2 := Option.some.inj h; have := ih j e; omega
              | none =>
                rw [e] at h
                dsimp only at h
                by_cases q : gnA (atP ps tl) m (n - m) = 0
                · rw [if_pos q] at h; cases h; omega
                · rw [if_neg q] at h; cases h
          exact key _ _ _ hst
        rw [dUp_hit _ hn (hf ▸ hst) hi]
        have e : ((i : Int) + 1) - (st : Int) = ((i + 1 - st : Nat) : Int) := by omega
        rw [e]; rfl
    · refine o_next (o_next ⟨rfl, dUp_miss _ hn ?_, _, _, _, _, _, rfl⟩)
      rw [← hf]
      cases q : fz0 (rowA (atP ps tl) (i + 1)) with
      | none => rfl
      | some k => rw [q] at c; cases c
  · obtain ⟨rfl, hn, u, v, w, z, t, rfl⟩ := hI
    refine o_ret (x := .val .non) (S1 := []) rfl ⟨[], ?_⟩
    rw [hn]; rfl
end HT

set_option maxRecDepth 100000
set_option linter.all false
set_option Elab.async false
/-! A6: dead pairs by the law; words and their values. -/
namespace HT
open PySem G
theorem sub_nat {n m : Nat} (h : m ≤ n) : ((n : Nat) : Int) - (m : Int) = ((n - m : Nat) : Int) := (Int.ofNat_sub h).symm
theorem dead_non (o : Option (Nat × Nat)) : isNon (.val (deadD o)) = o.isNone := by cases o <;> rfl
theorem gIsN_non (x : W) (S : Hs) : gIsN x (.val .non) S = .ok (.val (.bl (isNon x))) S := rfl
theorem gNotN_non (x : W) (S : Hs) : gNotN x (.val .non) S = .ok (.val (.bl (!isNon x))) S := rfl
theorem gEq_bl (a b : Bool) (S : Hs) : gEq (.val (.bl a)) (.val (.bl b)) S = .ok (.val (.bl (decide (a = b)))) S := by cases a <;> cases b <;> rfl
theorem gNe_bl (a b : Bool) (S : Hs) : gNe (.val (.bl a)) (.val (.bl b)) S = .ok (.val (.bl (!decide (a = b)))) S := by cases a <;> cases b <;> rfl
theorem eq_dead (o : Option (Nat × Nat)) (S : Hs) : eqW (.val (deadD o)) (.val (deadD o)) S = some true := by
  cases o with
  | none => rfl
  | some p => exact (eq_pr ((p.1 : Int), (p.2 : Int)) ((p.1 : Int), (p.2 : Int)) S).trans (by simp)
theorem eq_opt (o : Option Nat) (S : Hs) : eqW (.val (optD o)) (.val (optD o)) S = some true := by
  cases o with
  | none => rfl
  | some p =>
    show eqW (.val (.int (p : Int))) (.val (.int (p : Int))) S = some true
    unfold eqW flatD
    simp [L2.scal]
theorem v_lively (ps : List (Int × Int)) (tl : Int × Int) (b : Bd (atP ps tl)) (k : Nat) (hs : k ≤ 1000) (S : Hs) : callV r_Numbers_lively_to [.val (numD ps tl), wI (k : Nat)] S = .ok (.val (.bl (dUp (atP ps tl) k).isNone)) S := by
  refine call_of rfl rfl ?_
  unfold x_Numbers_lively_to
  refine o_ret (x := .val (.bl (dUp (atP ps tl) k).isNone)) (S1 := []) (e_bin (x := .val (deadD (dUp (atP ps tl) k))) (S1 := []) (e_me (ws := [wI (k : Nat)]) rfl rfl rfl (v_dead_pair ps tl b k hs [])) rfl ?_) ⟨_, rfl⟩
  rw [gIsN_non, dead_non]
def inD (a : Nat → Int × Int) (i m : Nat) : Option (Nat × Nat) := match dUp a i with
  | some p => some p
  | none => (fzA a (i + 1) m).map fun st => (st, i + 1 - st)
theorem inD_zero (a : Nat → Int × Int) (i : Nat) : inD a i 0 = dUp a i := by
  unfold inD fzA
  cases dUp a i <;> rfl
theorem inD_end (a : Nat → Int × Int) (i : Nat) : inD a i (i + 1) = dUp a (i + 1) := by
  unfold inD
  rw [dUp]
  first | done | rfl
theorem inD_some {a : Nat → Int × Int} {i m : Nat} {p : Nat × Nat} (h : inD a i m = some p) : inD a i (m + 1) = some p := by
  unfold inD at h ⊢
  cases e : dUp a i with
  | some q => rw [e] at h; exact h
  | none =>
    rw [e] at h
    dsimp only at h ⊢
    rw [fzA]
    cases e2 : fzA a (i + 1) m with
    | some j => rw [e2] at h; exact h
    | none => rw [e2] at h; cases h
theorem inD_hit {a : Nat → Int × Int} {i m : Nat} (h : inD a i m = none) (q : gnA a m (i + 1 - m) = 0) : inD a i (m + 1) = some (m, i + 1 - m) := by
  unfold inD at h ⊢
  cases e : dUp a i with
  | some q => rw [e] at h; cases h
  | none =>
    rw [e] at h
    dsimp only at h ⊢
    rw [fzA]
    cases e2 : fzA a (i + 1) m with
    | some j => rw [e2] at h; cases h
    | none => simp [q]
theorem inD_miss {a : Nat → Int × Int} {i m : Nat} (h : inD a i m = none) (q : ¬ gnA a m (i + 1 - m) = 0) : inD a i (m + 1) = none := by
  unfold inD at h ⊢
  cases e : dUp a i with
  | some q => rw [e] at h; cases h
  | none =>
    rw [e] at h
    dsimp only at h ⊢
    rw [fzA]
    cases e2 : fzA a (i + 1) m with
    | some j => rw [e2] at h; cases h
    | none => simp [q]
theorem v_dead_right {S : Hs} {x : W} {ps qs : List (Int × Int)} {tl : Int × Int} (h : PsW S x ps) (ha : atP qs tl = atP ps tl) (b : Bd (atP ps tl)) (k : Nat) (hs : k ≤ 500) : callV r__law_dead_right [.val (numD qs tl), x, .val (prD tl), wI (k : Nat)] S = .ok (.val (.bl true)) S := by
  refine call_any rfl fun S0 hS => ?_
  have h : PsW S0 x ps := by
    refine Eq.trans ?_ h
    rcases hS with hS | ⟨ds, hS⟩
    · rw [hS]
    · cases x with
      | val d => cases d <;> rfl
      | ref i => cases hS
  have bq : Bd (atP qs tl) := by rw [ha]; exact b
  unfold x__law_dead_right
  refine o_asg (x := .val .non) (S1 := S0) rfl ?_
  refine o_rng2 (s := 1) (k := k) (e := (k : Int) + 1) (fun i ρ S => S = S0 ∧ ∃ u v, ρ = [some (.val (numD qs tl)), some x, some (.val (prD tl)), some (wI (k : Nat)), some (.val (deadD (dUp (atP ps tl) i))), u, v]) (S1 := S0) rfl (by omega) (by omega) (by omega) ⟨rfl, none, none, rfl⟩ (fun i ρ S hi hI => ?_) (fun ρ S hI => ?_)
  · obtain ⟨rfl, u, v, rfl⟩ := hI
    rw [Nat.add_comm 1 i]
    refine o_rng1 (k := i + 1) (fun m ρ S' => S' = S ∧ ∃ v, ρ = [some (.val (numD qs tl)), some x, some (.val (prD tl)), some (wI (k : Nat)), some (.val (deadD (inD (atP ps tl) i m))), some (wI ((i + 1 : Nat) : Int)), v]) (S1 := S) rfl (by omega) ⟨rfl, v, by rw [inD_zero]; rfl⟩ (fun m ρ S' hm hI => ?_) (fun ρ S' hI => ?_)
    · obtain ⟨rfl, v, rfl⟩ := hI
      refine o_if (c := (inD (atP ps tl) i m).isNone && decide (gnA (atP ps tl) m (i + 1 - m) = 0)) (S1 := S') (t_and (t_v (e_bin (x := .val (deadD (inD (atP ps tl) i m))) (S1 := S') (S2 := S') rfl rfl ?_)) fun _ => t_v (e_bin (x := wI (gnA (atP ps tl) m (i + 1 - m))) (S1 := S') (S2 := S') (e_cb (ws := [x, .val (prD tl), wI (m : Nat), wI ((i + 1 - m : Nat) : Int)]) (S1 := S') (a_cons rfl (a_cons rfl (a_cons rfl (a_cons (e_bin (x := wI ((i + 1 : Nat) : Int)) (y := wI (m : Nat)) (S1 := S') (S2 := S') rfl rfl ?_) rfl)))) (v_law_sum h b m (i + 1 - m) (by omega))) rfl (gEq_int ..))) (fun c => ?_) (fun c => ?_)
      · rw [gIsN_non, dead_non]
      · rw [min_int, sub_nat (by omega)]
      · have c1 : inD (atP ps tl) i m = none := by
          cases e : inD (atP ps tl) i m with
          | none => rfl
          | some p => rw [e] at c; cases c
        have c2 : gnA (atP ps tl) m (i + 1 - m) = 0 := by rw [c1] at c; simpa using c
        refine o_asg (x := .val (deadD (some (m, i + 1 - m)))) (S1 := S') ?_ (o_next (o_next ⟨rfl, some (wI (m : Nat)), ?_⟩))
        · refine e_cb (ws := [wI (m : Nat), wI ((i + 1 - m : Nat) : Int)]) (S1 := S') (a_cons rfl (a_cons (e_bin (x := wI ((i + 1 : Nat) : Int)) (y := wI (m : Nat)) (S1 := S') (S2 := S') rfl rfl ?_) rfl)) rfl
          rw [min_int, sub_nat (by omega)]
        · rw [inD_hit c1 c2]; rfl
      · refine o_next (o_next ⟨rfl, some (wI (m : Nat)), ?_⟩)
        have e3 : inD (atP ps tl) i (m + 1) = inD (atP ps tl) i m := by
          cases e : inD (atP ps tl) i m with
          | some p => rw [inD_some e]
          | none =>
            rw [e] at c
            have c2 : ¬ gnA (atP ps tl) m (i + 1 - m) = 0 := by simpa using c
            rw [inD_miss e c2]
        rw [e3]; rfl
    · obtain ⟨rfl, v, rfl⟩ := hI
      exact o_next ⟨rfl, _, _, by rw [inD_end]⟩
  · obtain ⟨rfl, u, v, rfl⟩ := hI
    refine o_ret (x := .val (.bl true)) (S1 := S) (e_and (c := true) (d := true) (e_bin (x := .val (deadD (dUp (atP ps tl) k))) (S1 := S) (S2 := S) (e_me (ws := [wI (k : Nat)]) rfl rfl rfl ?_) rfl (gEq_of (eq_dead ..))) fun _ => e_bin (x := .val (.bl (dUp (atP ps tl) k).isNone)) (y := .val (.bl (dUp (atP ps tl) k).isNone)) (S1 := S) (S2 := S) (e_me (ws := [wI (k : Nat)]) rfl rfl rfl ?_) (e_bin (x := .val (deadD (dUp (atP ps tl) k))) (S1 := S) (S2 := S) rfl rfl ?_) ?_) rfl
    · have z := v_dead_pair qs tl bq k (by omega) S
      rw [ha] at z; exact z
    · have z := v_lively qs tl bq k (by omega) S
      rw [ha] at z; exact z
    · rw [gIsN_non, dead_non]
    · rw [gEq_bl]; simp
/-! words -/
def chS (b : Bool) : Str := ⟨#[if b = true then 117 else 100]⟩
def wd (l : List Bool) : Str := ⟨(l.map fun b => if b = true then 117 else 100).toArray⟩
theorem str_u : PySem.Str.ofString "u" = ⟨#[117]⟩ := by decide +kernel
theorem str_d : PySem.Str.ofString "d" = ⟨#[100]⟩ := by decide +kernel
theorem eq_str (a b : Str) (S : Hs) : eqW (.val (.str a)) (.val (.str b)) S = some (decide (a = b)) := by
  unfold eqW flatD
  simp [L2.scal]
theorem eq_u (b : Bool) (S : Hs) : eqW (.val (.str (chS b))) (.val (.str (PySem.Str.ofString "u"))) S = some b := by
  rw [eq_str, str_u]
  cases b <;> rfl
theorem eq_d (b : Bool) (S : Hs) : eqW (.val (.str (chS b))) (.val (.str (PySem.Str.ofString "d"))) S = some (!b) := by
  rw [eq_str, str_d]
  cases b <;> rfl
theorem wd_app (l m : List Bool) : wd l ++ wd m = wd (l ++ m) := by
  show Str.append (wd l) (wd m) = _
  unfold Str.append wd
  simp
theorem wd_len (l : List Bool) : (wd l).length = l.length := by
  unfold Str.length wd
  simp
theorem chW_wd (l : List Bool) : chW (wd l) = l.map fun b => W.val (.str (chS b)) := by
  unfold chW wd chS
  simp [List.map_map]
theorem wd_at (l : List Bool) (i : Nat) : nxStr (wd l) i = match l[i]? with
    | some b => .item false [.val (.str (chS b))]
    | none => .stop := by
  unfold nxStr wd chS
  simp only [List.getElem?_toArray, List.getElem?_map]
  cases l[i]? <;> rfl
section
variable {P : G.Env → Hs → Prop} {Q : RS → Prop} {ρ ρ1 : G.Env} {S S1 S2 S3 : Hs} {x y z : W} {ws us : List W}
theorem o_str {v : Nat} {body b : Es} {a : Ev} {l : List Bool} (I : Nat → G.Env → Hs → Prop) (ha : a ρ S = .ok (.val (.str (wd l))) S1) (h0 : I 0 ρ S1)
    (hs : ∀ (i : Nat) (c : Bool) ρ S, l[i]? = some c → I i ρ S → Out (I (i + 1)) Q (body (ρ.set v (some (.val (.str (chS c))))) S)) (he : ∀ ρ S, I l.length ρ S → Out P Q (b ρ S)) : Out P Q (esSeq (esFor (eiSeq a) (.one (egName v)) body) b ρ S) := by
  refine o_seq ?_
  have e : eiSeq a ρ S = .ok ⟨l.length, fun i _ => nxStr (wd l) i⟩ S1 := by
    unfold eiSeq
    rw [ha]
    dsimp only [G.R.bind]
    have : (wd l).cps.size = l.length := wd_len l
    rw [this]
  rw [for_src e]
  refine o_loop I l.length (fun i ρ S hk h => ?_) (fun ρ S h => ?_) l.length 0 ρ S1 (by omega) h0
  · have e : l[i]? = some l[i] := List.getElem?_eq_getElem hk
    refine ⟨false, [.val (.str (chS l[i]))], _, S, ?_, rfl, hs i l[i] ρ S e h⟩
    show nxStr (wd l) i = _
    rw [wd_at, e]
  · refine ⟨?_, he ρ S h⟩
    show nxStr (wd l) l.length = _
    rw [wd_at, List.getElem?_eq_none (Nat.le_refl _)]
theorem o_enumS {v1 v2 : Nat} {body b : Es} {a : Ea} {l : List Bool} (I : Nat → G.Env → Hs → Prop) (ha : a ρ S = .ok [.val (.str (wd l))] S1) (h0 : I 0 ρ S1)
    (hs : ∀ (i : Nat) (c : Bool) ρ S, l[i]? = some c → I i ρ S → Out (I (i + 1)) Q (body ((ρ.set v1 (some (.val (.int (i : Nat))))).set v2 (some (.val (.str (chS c))))) S)) (he : ∀ ρ S, I l.length ρ S → Out P Q (b ρ S)) :
    Out P Q (esSeq (esFor (eiEn a) (.row 2 (egCons (egName v1) (egCons (egName v2) egNil))) body) b ρ S) := by
  refine o_seq ?_
  have q : ∀ S, seqW (.val (.str (wd l))) S = some (l.map fun b => W.val (.str (chS b))) := fun S => by
    show some (chW (wd l)) = _
    rw [chW_wd]
  have e : eiEn a ρ S = .ok ⟨l.length, nxEn (.val (.str (wd l)))⟩ S1 := by
    unfold eiEn
    rw [ha]
    dsimp only [G.R.bind]
    rw [q]
    dsimp only
    rw [List.length_map]
  rw [for_src e]
  refine o_loop I l.length (fun i ρ S hk h => ?_) (fun ρ S h => ?_) l.length 0 ρ S1 (by omega) h0
  · have e : l[i]? = some l[i] := List.getElem?_eq_getElem hk
    refine ⟨true, [.val (.int (i : Nat)), .val (.str (chS l[i]))], _, S, ?_, rfl, hs i l[i] ρ S e h⟩
    show nxEn (.val (.str (wd l))) i S = _
    unfold nxEn
    rw [q]
    dsimp only
    rw [List.getElem?_map, e]
    rfl
  · refine ⟨?_, he ρ S h⟩
    show nxEn (.val (.str (wd l))) l.length S = _
    unfold nxEn
    rw [q]
    dsimp only
    rw [List.getElem?_map, List.getElem?_eq_none (Nat.le_refl _)]
    dsimp only [Option.map]
    rw [List.length_map, if_pos rfl]
theorem o_loopB {src : Src} {t : Tk} {body : Es} (I : Nat → G.Env → Hs → Prop) (k : Nat)
    (hs : ∀ i ρ S, i < k → I i ρ S → ∃ row ws ρ1 S1, src.nxt i S = .item row ws ∧ t.run row ws ρ S = .nx ρ1 S1 ∧ Out (I (i + 1)) Q (body ρ1 S1))
    (he : ∀ ρ S, I k ρ S → src.nxt k S = .stop ∧ P ρ S) : ∀ j i ρ S, k ≤ i + j → i ≤ k → I i ρ S → Out P Q (loopF src t body j i ρ S) := by
  intro j
  induction j with
  | zero => intro i ρ S e e2 h; exact o_loop I k hs he 0 i ρ S (by omega) h
  | succ j ih =>
    intro i ρ S e e2 h
    by_cases q : i = k
    · subst q
      obtain ⟨h1, h2⟩ := he ρ S h
      unfold loopF
      rw [h1]
      exact ⟨h2⟩
    · obtain ⟨row, ws, ρ1, S1, h1, h2, h3⟩ := hs i ρ S (by omega) h
      unfold loopF
      rw [h1]
      dsimp only
      rw [h2]
      dsimp only
      cases e2 : body ρ1 S1 with
      | nx ρ2 S2 => rw [e2] at h3; exact ih (i + 1) ρ2 S2 (by omega) (by omega) h3.o
      | rt w S2 => rw [e2] at h3; exact ⟨h3.o⟩
      | exc c fs ρ2 S2 => rw [e2] at h3; exact ⟨h3.o⟩
      | ct ρ2 S2 => rw [e2] at h3; exact h3.o.elim
      | bk ρ2 S2 => rw [e2] at h3; exact h3.o.elim
      | no => rw [e2] at h3; exact h3.o.elim
theorem o_zip {v1 v2 : Nat} {body b : Es} {a : Ea} {l : List Bool} {hs : List G.D} (I : Nat → G.Env → Hs → Prop) (hl : hs.length = l.length + 1) (ha : a ρ S = .ok [.val (.tup hs), .val (.str (wd l))] S1) (h0 : I 0 ρ S1)
    (hst : ∀ (i : Nat) (c : Bool) (d : G.D) ρ S, l[i]? = some c → hs[i]? = some d → I i ρ S → Out (I (i + 1)) Q (body ((ρ.set v1 (some (.val d))).set v2 (some (.val (.str (chS c))))) S)) (he : ∀ ρ S, I l.length ρ S → Out P Q (b ρ S)) :
    Out P Q (esSeq (esFor (eiZp a) (.row 2 (egCons (egName v1) (egCons (egName v2) egNil))) body) b ρ S) := by
  refine o_seq ?_
  have q : ∀ S, seqW (.val (.str (wd l))) S = some (l.map fun b => W.val (.str (chS b))) := fun S => by
    show some (chW (wd l)) = _
    rw [chW_wd]
  have q2 : ∀ S, seqW (.val (.tup hs)) S = some (hs.map .val) := fun S => rfl
  have e : eiZp a ρ S = .ok ⟨l.length + 1, nxZp (.val (.tup hs)) (.val (.str (wd l)))⟩ S1 := by
    unfold eiZp
    rw [ha]
    dsimp only [G.R.bind]
    rw [q, q2]
    dsimp only
    rw [List.length_map, hl]
  rw [for_src e]
  refine o_loopB I l.length (fun i ρ S hk h => ?_) (fun ρ S h => ?_) (l.length + 1) 0 ρ S1 (by omega) (by omega) h0
  · have e : l[i]? = some l[i] := List.getElem?_eq_getElem hk
    have e2 : hs[i]? = some hs[i] := List.getElem?_eq_getElem (by omega)
    refine ⟨true, [.val hs[i], .val (.str (chS l[i]))], _, S, ?_, rfl, hst i l[i] hs[i] ρ S e e2 h⟩
    show nxZp (.val (.tup hs)) (.val (.str (wd l))) i S = _
    unfold nxZp
    rw [q, q2]
    dsimp only
    rw [List.getElem?_map, List.getElem?_map, e, e2]
    rfl
  · refine ⟨?_, he ρ S h⟩
    show nxZp (.val (.tup hs)) (.val (.str (wd l))) l.length S = _
    unfold nxZp
    rw [q, q2]
    dsimp only
    rw [List.getElem?_map (f := fun b => W.val (.str (chS b))), List.getElem?_eq_none (Nat.le_refl _)]
    dsimp only [Option.map]
    rw [List.length_map, List.length_map, if_pos ⟨by omega, by omega, .inr rfl⟩]
    cases (hs.map W.val)[l.length]? <;> rfl
end
end HT

set_option maxRecDepth 100000
set_option linter.all false
set_option Elab.async false
/-! A7: val of a word, and the law's look at it. -/
namespace HT
open PySem G
theorem rise_app : ∀ (w u : List Bool), riseA (w ++ u) = riseA w + riseA u := by
  intro w
  induction w with
  | nil => intro u; simp [riseA]
  | cons b w ih =>
    intro u
    cases b with
    | true => rw [List.cons_append, riseA, riseA, ih]; omega
    | false => rw [List.cons_append, riseA, riseA, ih]; omega
theorem take_next {l : List Bool} {i : Nat} {c : Bool} (h : l[i]? = some c) : l.take (i + 1) = l.take i ++ [c] := by
  have hi : i < l.length := by
    rcases Nat.lt_or_ge i l.length with z | z
    · exact z
    · rw [List.getElem?_eq_none z] at h; cases h
  rw [List.take_add_one, h]
  rfl
def htA (r : Nat) (l : List Bool) (i : Nat) : Int := (r : Int) + riseA (l.take i)
theorem ht_next {l : List Bool} {i : Nat} {c : Bool} (h : l[i]? = some c) (r : Nat) : htA r l (i + 1) = if c = true then htA r l i + 1 else htA r l i - 1 := by
  unfold htA
  rw [take_next h, rise_app]
  cases c
  · simp [riseA]; omega
  · simp [riseA]; omega
theorem ht_zero (r : Nat) (l : List Bool) : htA r l 0 = (r : Int) := by
  unfold htA
  simp [riseA]
theorem vl_next {l : List Bool} {i : Nat} {c : Bool} (h : l[i]? = some c) (a : Nat → Int × Int) (s r : Nat) : vlA a s (r : Int) 1 (l.take (i + 1)) = if c = true then vlA a s (r : Int) 1 (l.take i) else vlA a s (r : Int) 1 (l.take i) * dwn a s (htA r l i) := by
  rw [take_next h, vl_app]
  cases c
  · simp [vlA, htA]
  · simp [vlA]
theorem rise_le : ∀ w : List Bool, riseA w ≤ w.length ∧ -(w.length : Int) ≤ riseA w := by
  intro w
  induction w with
  | nil => simp [riseA]
  | cons b w ih => cases b <;> simp [riseA] <;> omega
theorem ht_le (r : Nat) (l : List Bool) (i : Nat) : htA r l i ≤ (r : Int) + l.length ∧ (r : Int) - l.length ≤ htA r l i := by
  unfold htA
  have := rise_le (l.take i)
  have h2 : (l.take i).length ≤ l.length := by rw [List.length_take]; omega
  omega
theorem dwn_sz {a : Nat → Int × Int} (b : Bd a) (s : Nat) {h : Int} (hh : h ≤ 100) : Sz 4241 (dwn a s h) := by
  unfold dwn
  by_cases q : h > (s : Int)
  · rw [if_pos q]; exact (gn_sz a b s _).mono (by omega)
  · rw [if_neg q]; unfold Sz; exact Nat.pow_pos (by omega)
theorem vl_sz {a : Nat → Int × Int} (b : Bd a) (s r : Nat) (l : List Bool) (hl : r + l.length ≤ 100) : ∀ i, i ≤ l.length → Sz (1 + 4241 * i) (vlA a s (r : Int) 1 (l.take i)) := by
  intro i
  induction i with
  | zero => intro _; rw [List.take_zero, vlA]; unfold Sz; decide
  | succ i ih =>
    intro h
    have e : l[i]? = some l[i] := List.getElem?_eq_getElem (by omega)
    rw [vl_next e]
    have := (ht_le r l i).1
    by_cases q : l[i] = true
    · rw [if_pos q]; exact (ih (by omega)).mono (by omega)
    · rw [if_neg q]; exact (Sz.mul (ih (by omega)) (dwn_sz b s (by omega))).mono (by omega)
theorem v_check_word (l : List Bool) (S : Hs) : callV r_check_word [.val (.str (wd l))] S = .ok (.val (.str (wd l))) S := by
  refine call_of rfl rfl ?_
  unfold x_check_word
  refine o_pass (S1 := []) (t_not (c := true) (t_v rfl)) ?_
  refine o_enumS (l := l) (fun i ρ S => S = [] ∧ ∃ u v, ρ = [some (.val (.str (wd l))), u, v]) (S1 := []) rfl ⟨rfl, none, none, rfl⟩ (fun i c ρ S e hI => ?_) (fun ρ S hI => ?_)
  · obtain ⟨rfl, u, v, rfl⟩ := hI
    refine o_pass (S1 := []) ?_ (o_next ⟨rfl, _, _, rfl⟩)
    have z := t_and (t_v (e_bin (g := gNe) (a := evVar 2) (b := evC (.str (PySem.Str.ofString "u"))) (ρ := [some (.val (.str (wd l))), some (wI (i : Nat)), some (.val (.str (chS c)))]) (S := []) rfl rfl (gNe_of (eq_u c [])))) fun _ => t_v (e_bin (g := gNe) (a := evVar 2) (b := evC (.str (PySem.Str.ofString "d"))) (ρ := [some (.val (.str (wd l))), some (wI (i : Nat)), some (.val (.str (chS c)))]) (S := []) rfl rfl (gNe_of (eq_d c [])))
    have e3 : (!c && !!c) = false := by cases c <;> rfl
    rw [e3] at z
    exact z
  · obtain ⟨rfl, u, v, rfl⟩ := hI
    exact o_ret (x := .val (.str (wd l))) (S1 := []) rfl ⟨_, rfl⟩
theorem append_cell {S : Hs} {i : Nat} {ws : List W} {y : W} (h : S[i]? = some (some (.lst ws))) (hl : ws.length < 16777216) : gAppend (.ref i) [y] S = .ok (.val .non) (S.set i (some (.lst (ws ++ [y])))) := by
  unfold gAppend cellL
  dsimp only
  rw [h]
  dsimp only
  rw [if_pos hl]
  rfl
theorem v_heights (l : List Bool) (r : Nat) (hl : r + l.length ≤ 1000) (S : Hs) : callV r_heights [.val (.str (wd l)), wI (r : Nat)] S = .ok (.val (.tup ((List.range (l.length + 1)).map fun i => G.D.int (htA r l i)))) S := by
  refine call_of rfl rfl ?_
  unfold x_heights
  refine o_drop (e_cb (ws := [.val (.str (wd l))]) rfl (v_check_word ..)) ?_
  refine o_asg (e_cb (ws := [wI (r : Nat)]) rfl (v_any _ _ (by omega))) ?_
  refine o_asg (x := .ref 0) (S1 := [some (.lst [wI (r : Nat)])]) rfl ?_
  refine o_str (l := l) (fun i ρ S => S = [some (.lst ((List.range (i + 1)).map fun j => wI (htA r l j)))] ∧ ∃ u, ρ = [some (.val (.str (wd l))), some (wI (r : Nat)), some (wI (htA r l i)), some (.ref 0), u]) (S1 := [some (.lst [wI (r : Nat)])]) rfl ⟨by rw [show List.range (0 + 1) = [0] from rfl, List.map_cons, ht_zero]; rfl, none, by rw [ht_zero]; rfl⟩ (fun i c ρ S e hI => ?_) (fun ρ S hI => ?_)
  · obtain ⟨rfl, u, rfl⟩ := hI
    have hi : i < l.length := by
      rcases Nat.lt_or_ge i l.length with z | z
      · exact z
      · rw [List.getElem?_eq_none z] at e; cases e
    refine o_asg (x := wI (htA r l (i + 1))) (S1 := [some (.lst ((List.range (i + 1)).map fun j => wI (htA r l j)))]) (e_if (c := c) (S1 := [some (.lst ((List.range (i + 1)).map fun j => wI (htA r l j)))]) (t_v (e_bin (x := .val (.str (chS c))) (S1 := [some (.lst ((List.range (i + 1)).map fun j => wI (htA r l j)))]) (S2 := [some (.lst ((List.range (i + 1)).map fun j => wI (htA r l j)))]) rfl rfl (gEq_of (eq_u ..)))) (fun h => ?_) (fun h => ?_)) ?_
    · rw [ht_next e, if_pos h]; rfl
    · rw [ht_next e, if_neg (by rw [h]; exact Bool.false_ne_true)]; rfl
    · refine o_drop (e_bm (x := .ref 0) (S1 := [some (.lst ((List.range (i + 1)).map fun j => wI (htA r l j)))]) rfl rfl (ws := [wI (htA r l (i + 1))]) rfl (append_cell rfl (by simp; omega))) (o_next ⟨?_, _, rfl⟩)
      rw [List.range_succ (n := i + 1), List.map_append]
      rfl
  · obtain ⟨rfl, u, rfl⟩ := hI
    refine o_ret (x := .val (.tup ((List.range (l.length + 1)).map fun i => G.D.int (htA r l i)))) (S1 := [some (.lst ((List.range (l.length + 1)).map fun j => wI (htA r l j)))]) (e_cb (ws := [.ref 0]) (S1 := [some (.lst ((List.range (l.length + 1)).map fun j => wI (htA r l j)))]) rfl ?_) ⟨_, rfl⟩
    show mkTup ((List.range (l.length + 1)).map fun j => wI (htA r l j)) _ = _
    have e : ((List.range (l.length + 1)).map fun j => wI (htA r l j)) = ((List.range (l.length + 1)).map fun i => G.D.int (htA r l i)).map .val := by rw [List.map_map]; rfl
    rw [e]
    exact mk_tup (by simp; omega)
theorem v_val (ps : List (Int × Int)) (tl : Int × Int) (b : Bd (atP ps tl)) (s r : Nat) (hr : s ≤ r) (l : List Bool) (hl : r + l.length ≤ 100) (S : Hs) :
    callV r_Numbers_val [.val (numD ps tl), wI (s : Nat), wI (r : Nat), .val (.str (wd l))] S = .ok (wI (vlA (atP ps tl) s (r : Int) 1 l)) S := by
  refine call_of rfl rfl ?_
  unfold x_Numbers_val
  refine o_drop (e_cb (ws := [wI (s : Nat)]) rfl (v_any _ _ (by omega))) ?_
  refine o_drop (e_cb (ws := [wI (r : Nat), wI (s : Nat)]) rfl (v_rank_from _ _ _ (by omega))) ?_
  refine o_drop (e_cb (ws := [.val (.str (wd l))]) rfl (v_check_word ..)) ?_
  refine o_asg (x := wI 1) (S1 := []) rfl ?_
  refine o_zip (l := l) (hs := (List.range (l.length + 1)).map fun i => G.D.int (htA r l i)) (fun i ρ S => S = [] ∧ ∃ u v, ρ = [some (.val (numD ps tl)), some (wI (s : Nat)), some (wI (r : Nat)), some (.val (.str (wd l))), some (wI (vlA (atP ps tl) s (r : Int) 1 (l.take i))), u, v]) (S1 := []) (by simp) (a_cons (e_cb (ws := [.val (.str (wd l)), wI (r : Nat)]) rfl (v_heights l r (by omega) [])) rfl) ⟨rfl, none, none, rfl⟩ (fun i c d ρ S e e2 hI => ?_) (fun ρ S hI => ?_)
  · obtain ⟨rfl, u, v, rfl⟩ := hI
    have hi : i < l.length := by
      rcases Nat.lt_or_ge i l.length with z | z
      · exact z
      · rw [List.getElem?_eq_none z] at e; cases e
    have hd : d = .int (htA r l i) := by
      rw [List.getElem?_map, List.getElem?_range (by omega)] at e2
      exact (Option.some.inj e2).symm
    subst hd
    have hb := ht_le r l i
    refine o_if (c := !c) (S1 := []) (t_v (e_bin (x := .val (.str (chS c))) (S1 := []) (S2 := []) rfl rfl (gEq_of (eq_d ..)))) (fun h => ?_) (fun h => ?_)
    · have hc : c = false := by cases c with | false => rfl | true => cases h
      subst hc
      have key : evIf (etV (evBin (gCmp (fun i j => decide (j < i))) (evVar 5) (evVar 1))) (evMe "Numbers" "gain" r_Numbers_gain [] (evVar 0) (eaCons (evVar 1) (eaCons (evBin (gMinus) (evVar 5) (evVar 1)) eaNil))) (evC (.int 0))
          [some (.val (numD ps tl)), some (wI (s : Nat)), some (wI (r : Nat)), some (.val (.str (wd l))), some (wI (vlA (atP ps tl) s (r : Int) 1 (l.take i))), some (wI (htA r l i)), some (.val (.str (chS false)))] [] = .ok (wI (dwn (atP ps tl) s (htA r l i))) [] := by
        refine e_if (c := decide ((s : Int) < htA r l i)) (S1 := []) (t_v (e_bin (x := wI (htA r l i)) (y := wI (s : Nat)) (S1 := []) (S2 := []) rfl rfl rfl)) (fun h => ?_) (fun h => ?_)
        · have h := of_decide_eq_true h
          have e5 : htA r l i - (s : Int) = (((htA r l i - (s : Int)).toNat : Nat) : Int) := by omega
          refine e_me (S2 := []) (ws := [wI (s : Nat), wI (((htA r l i - (s : Int)).toNat : Nat) : Int)]) rfl rfl (a_cons rfl (a_cons (e_bin (x := wI (htA r l i)) (y := wI (s : Nat)) (S1 := []) (S2 := []) rfl rfl ?_) rfl)) ?_
          · rw [min_int, ← e5]
          · refine (v_gain ps tl b s _ (by omega) []).trans ?_
            unfold dwn
            rw [if_pos h]
        · have h := of_decide_eq_false h
          unfold dwn
          rw [if_neg h]; rfl
      refine o_asg (x := wI (vlA (atP ps tl) s (r : Int) 1 (l.take (i + 1)))) (S1 := []) ?_ (o_next (o_next ⟨rfl, _, _, rfl⟩))
      refine e_bin (x := wI (vlA (atP ps tl) s (r : Int) 1 (l.take i))) (S1 := []) rfl key ?_
      rw [mul_ok (cm_of (vl_sz b s r l hl i (by omega)) (dwn_sz b s (h := htA r l i) (by omega)) (by omega)), vl_next e, if_neg Bool.false_ne_true]
    · have hc : c = true := by cases c with | true => rfl | false => cases h
      subst hc
      refine o_next (o_next ⟨rfl, some (wI (htA r l i)), some (.val (.str (chS true))), ?_⟩)
      rw [vl_next e, if_pos rfl]; rfl
  · obtain ⟨rfl, u, v, rfl⟩ := hI
    refine o_ret (x := wI (vlA (atP ps tl) s (r : Int) 1 l)) (S1 := []) ?_ ⟨_, rfl⟩
    rw [List.take_length]; rfl
/-! how often letters stand in a word of at most six -/
def cntU (w : List Bool) : Int := Txt.count (wd w) (PySem.Str.ofString "u") - Txt.count (wd w) (PySem.Str.ofString "d")
def allW : Nat → List (List Bool)
  | 0 => [[]]
  | n + 1 => (allW n).flatMap fun w => [true :: w, false :: w]
theorem mem_allW : ∀ w : List Bool, w ∈ allW w.length := by
  intro w
  induction w with
  | nil => exact List.mem_singleton.mpr rfl
  | cons b w ih =>
    rw [List.length_cons, allW, List.mem_flatMap]
    refine ⟨w, ih, ?_⟩
    cases b <;> simp
theorem cnt_all : ((List.range 7).all fun n => (allW n).all fun w => decide (cntU w = riseA w)) = true := by decide +kernel
theorem cnt_rise {w : List Bool} (h : w.length ≤ 6) : cntU w = riseA w := by
  have z := List.all_eq_true.mp cnt_all w.length (List.mem_range.mpr (by omega))
  have z2 := List.all_eq_true.mp z w (mem_allW w)
  exact of_decide_eq_true z2
end HT

set_option maxRecDepth 100000
set_option linter.all false
set_option Elab.async false
/-! A8: the law's look at words. -/
namespace HT
open PySem G
theorem ps_any {S S0 : Hs} {x : W} {y : G.D} {us : List W} {ps : List (Int × Int)} (hS : S0 = S ∨ ∃ ds, vals? (.val y :: x :: us) = some ds) (h : PsW S x ps) : PsW S0 x ps := by
  refine Eq.trans ?_ h
  rcases hS with hS | ⟨ds, hS⟩
  · rw [hS]
  · cases x with
    | val d => cases d <;> rfl
    | ref i => cases hS
theorem v_law_int (i : Int) (S : Hs) : callV r__law_int [wI i] S = .ok (.val (.bl true)) S := rfl
theorem addI_int (i j : Int) (S : Hs) : gAddI (wI i) (wI j) S = .ok (wI (i + j)) S := rfl
theorem cat_wd (l m : List Bool) (h : l.length + m.length ≤ 1000) (S : Hs) : gAdd false (.val (.str (wd l))) (.val (.str (wd m))) S = .ok (.val (.str (wd (l ++ m)))) S := by
  show (if (wd l).length + (wd m).length ≤ 16777216 then G.R.ok (W.val (.str (wd l ++ wd m))) S else .no) = _
  rw [wd_len, wd_len, if_pos (by omega), wd_app]
theorem v_val' {ps qs : List (Int × Int)} {tl : Int × Int} (ha : atP qs tl = atP ps tl) (b : Bd (atP ps tl)) (s r : Nat) (hr : s ≤ r) (l : List Bool) (hl : r + l.length ≤ 100) (S : Hs) :
    callV r_Numbers_val [.val (numD qs tl), wI (s : Nat), wI (r : Nat), .val (.str (wd l))] S = .ok (wI (vlA (atP ps tl) s (r : Int) 1 l)) S := by
  have z := v_val qs tl (by rw [ha]; exact b) s r hr l hl S
  rw [ha] at z; exact z
theorem v_words_right {S : Hs} {x : W} {ps qs : List (Int × Int)} {tl : Int × Int} (h : PsW S x ps) (ha : atP qs tl = atP ps tl) (b : Bd (atP ps tl)) (s r : Nat) (hr : s ≤ r) (hr2 : r ≤ 50) (w1 w2 : List Bool) (h1 : w1.length ≤ 6) (h2 : w2.length ≤ 6) :
    callV r__law_words_right [.val (numD qs tl), x, .val (prD tl), wI (s : Nat), wI (r : Nat), .val (.lst [.str (wd w1), .str (wd w2)])] S = .ok (.val (.bl true)) S := by
  refine call_any rfl fun S0 hS => ?_
  have h : PsW S0 x ps := ps_any hS h
  have hl : r + (w1 ++ w2).length ≤ 100 := by rw [List.length_append]; omega
  unfold x__law_words_right
  refine o_asg (x := wI (r : Nat)) (S1 := S0) rfl ?_
  refine o_asg (x := wI 1) (S1 := S0) rfl ?_
  refine o_asg (x := .val (.str (wd (w1 ++ w2)))) (S1 := S0) (e_bin (x := .val (.str (wd w1))) (y := .val (.str (wd w2))) (S1 := S0) (S2 := S0) rfl rfl (cat_wd w1 w2 (by omega) S0)) ?_
  refine o_str (l := w1 ++ w2) (fun i ρ S => S = S0 ∧ ∃ u v w z, ρ = [some (.val (numD qs tl)), some x, some (.val (prD tl)), some (wI (s : Nat)), some (wI (r : Nat)), some (.val (.lst [.str (wd w1), .str (wd w2)])), some (wI (htA r (w1 ++ w2) i)), some (wI (vlA (atP ps tl) s (r : Int) 1 ((w1 ++ w2).take i))), some (.val (.str (wd (w1 ++ w2)))), u, v, w, z]) (S1 := S0) rfl ⟨rfl, none, none, none, none, by rw [ht_zero, List.take_zero]; rfl⟩ (fun i c ρ S e hI => ?_) (fun ρ S hI => ?_)
  · obtain ⟨rfl, u, v, w, z, rfl⟩ := hI
    have hi : i < (w1 ++ w2).length := by
      rcases Nat.lt_or_ge i (w1 ++ w2).length with z | z
      · exact z
      · rw [List.getElem?_eq_none z] at e; cases e
    have hb := ht_le r (w1 ++ w2) i
    refine o_if (c := c) (S1 := S) (t_v (e_bin (x := .val (.str (chS c))) (S1 := S) (S2 := S) rfl rfl (gEq_of (eq_u ..)))) (fun hc => ?_) (fun hc => ?_)
    · refine o_aug (x := wI (htA r (w1 ++ w2) i)) (y := wI 1) (S1 := S) (S2 := S) rfl rfl (addI_int ..) (o_next (o_next ⟨rfl, some (.val (.str (chS c))), v, w, z, ?_⟩))
      rw [ht_next e, vl_next e, if_pos hc, if_pos hc]
      rfl
    · have hc2 : ¬ c = true := by rw [hc]; exact Bool.false_ne_true
      refine o_if (c := decide (htA r (w1 ++ w2) i ≤ (s : Int))) (S1 := S) (t_v (e_bin (x := wI (htA r (w1 ++ w2) i)) (y := wI (s : Nat)) (S1 := S) (S2 := S) rfl rfl rfl)) (fun hd => ?_) (fun hd => ?_)
      · have hd := of_decide_eq_true hd
        refine o_asg (x := wI 0) (S1 := S) rfl (o_next ?_)
        refine o_aug (x := wI (htA r (w1 ++ w2) i)) (y := wI 1) (S1 := S) (S2 := S) rfl rfl (min_int ..) (o_next (o_next ⟨rfl, some (.val (.str (chS c))), v, w, z, ?_⟩))
        have e0 : dwn (atP ps tl) s (htA r (w1 ++ w2) i) = 0 := by unfold dwn; rw [if_neg (by omega)]
        rw [ht_next e, vl_next e, if_neg hc2, if_neg hc2, e0, Int.mul_zero]
        rfl
      · have hd := of_decide_eq_false hd
        have e5 : htA r (w1 ++ w2) i - (s : Int) = (((htA r (w1 ++ w2) i - (s : Int)).toNat : Nat) : Int) := by omega
        have e0 : dwn (atP ps tl) s (htA r (w1 ++ w2) i) = gnA (atP ps tl) s (htA r (w1 ++ w2) i - (s : Int)).toNat := by unfold dwn; rw [if_pos (by omega)]
        refine o_asg (x := wI (vlA (atP ps tl) s (r : Int) 1 ((w1 ++ w2).take i) * dwn (atP ps tl) s (htA r (w1 ++ w2) i))) (S1 := S) (e_bin (x := wI (vlA (atP ps tl) s (r : Int) 1 ((w1 ++ w2).take i))) (y := wI (dwn (atP ps tl) s (htA r (w1 ++ w2) i))) (S1 := S) (S2 := S) rfl (e_cb (ws := [x, .val (prD tl), wI (s : Nat), wI (((htA r (w1 ++ w2) i - (s : Int)).toNat : Nat) : Int)]) (S1 := S) (a_cons rfl (a_cons rfl (a_cons rfl (a_cons (e_bin (x := wI (htA r (w1 ++ w2) i)) (y := wI (s : Nat)) (S1 := S) (S2 := S) rfl rfl ?_) rfl)))) ?_) (mul_ok (cm_of (vl_sz b s r (w1 ++ w2) hl i (by omega)) (dwn_sz b s (h := htA r (w1 ++ w2) i) (by omega)) (by omega)))) (o_next ?_)
        · rw [min_int, ← e5]
        · rw [e0]; exact v_law_sum h b s _ (by omega)
        refine o_aug (x := wI (htA r (w1 ++ w2) i)) (y := wI 1) (S1 := S) (S2 := S) rfl rfl (min_int ..) (o_next (o_next ⟨rfl, some (.val (.str (chS c))), v, w, z, ?_⟩))
        rw [ht_next e, vl_next e, if_neg hc2, if_neg hc2]
        rfl
  · obtain ⟨rfl, u, v, w, z, rfl⟩ := hI
    rw [List.take_length]
    have hcnt : wI ((Txt.count (wd w1) (PySem.Str.ofString "u") : Int) - (Txt.count (wd w1) (PySem.Str.ofString "d") : Int)) = wI (riseA w1) := congrArg wI (cnt_rise h1)
    refine o_asg (x := wI (riseA w1)) (S1 := S) (e_bin (x := wI (Txt.count (wd w1) (PySem.Str.ofString "u"))) (y := wI (Txt.count (wd w1) (PySem.Str.ofString "d"))) (S1 := S) (S2 := S) (e_bm (x := .val (.str (wd w1))) (ws := [.val (.str (PySem.Str.ofString "u"))]) (S1 := S) (S2 := S) rfl rfl rfl rfl) (e_bm (x := .val (.str (wd w1))) (ws := [.val (.str (PySem.Str.ofString "d"))]) (S1 := S) (S2 := S) rfl rfl rfl rfl) (by rw [min_int]; exact congrArg (fun w => G.R.ok w S) hcnt)) ?_
    refine o_asg (x := wI (vlA (atP ps tl) s (r : Int) 1 (w1 ++ w2))) (S1 := S) (e_me (S2 := S) (ws := [wI (s : Nat), wI (r : Nat), .val (.str (wd (w1 ++ w2)))]) rfl rfl rfl (v_val' ha b s r hr (w1 ++ w2) hl S)) ?_
    refine o_pass (S1 := S) (t_orF (t_not (c := true) (t_v (e_cb (ws := [wI (vlA (atP ps tl) s (r : Int) 1 (w1 ++ w2))]) (S1 := S) rfl (v_law_int ..)))) (t_v (e_bin (x := wI (vlA (atP ps tl) s (r : Int) 1 (w1 ++ w2))) (y := wI (vlA (atP ps tl) s (r : Int) 1 (w1 ++ w2))) (S1 := S) (S2 := S) rfl rfl ?_))) ?_
    · rw [gNe_int]; simp
    have hvl := vl_app (atP ps tl) s w1 w2 (r : Int) 1
    have hv1 : callV r_Numbers_val [.val (numD qs tl), wI (s : Nat), wI (r : Nat), .val (.str (wd w1))] S = .ok (wI (vlA (atP ps tl) s (r : Int) 1 w1)) S := v_val' ha b s r hr w1 (by omega) S
    have hri := rise_le w1
    refine o_if (c := decide ((s : Int) ≤ (r : Int) + riseA w1)) (S1 := S) (t_v (e_bin (x := wI ((r : Int) + riseA w1)) (y := wI (s : Nat)) (S1 := S) (S2 := S) rfl rfl rfl)) (fun hd => ?_) (fun hd => ?_)
    · have hd := of_decide_eq_true hd
      have e5 : (r : Int) + riseA w1 = ((((r : Int) + riseA w1).toNat : Nat) : Int) := by omega
      have hv2 := v_val' ha b s ((r : Int) + riseA w1).toNat (by omega) w2 (by omega) S
      rw [← e5] at hv2
      have z1 := vl_sz b s r w1 (by omega) w1.length (Nat.le_refl _)
      have z2 := vl_sz b s ((r : Int) + riseA w1).toNat w2 (by omega) w2.length (Nat.le_refl _)
      rw [List.take_length] at z1 z2
      rw [← e5] at z2
      refine o_asg (x := wI (vlA (atP ps tl) s (r : Int) 1 (w1 ++ w2))) (S1 := S) (e_bin (x := wI (vlA (atP ps tl) s (r : Int) 1 w1)) (y := wI (vlA (atP ps tl) s ((r : Int) + riseA w1) 1 w2)) (S1 := S) (S2 := S) (e_me (S2 := S) (ws := [wI (s : Nat), wI (r : Nat), .val (.str (wd w1))]) rfl rfl rfl hv1) (e_me (S2 := S) (ws := [wI (s : Nat), wI ((r : Int) + riseA w1), .val (.str (wd w2))]) rfl rfl rfl hv2) ?_) ?_
      · rw [mul_ok (cm_of z1 z2 (by omega)), hvl, ← vl_lin]
      · refine o_ret (x := .val (.bl true)) (S1 := S) (e_bin (x := wI (vlA (atP ps tl) s (r : Int) 1 (w1 ++ w2))) (y := wI (vlA (atP ps tl) s (r : Int) 1 (w1 ++ w2))) (S1 := S) (S2 := S) rfl rfl ?_) rfl
        rw [gEq_int]; simp
    · have hd := of_decide_eq_false hd
      have e1 : vlA (atP ps tl) s (r : Int) 1 w1 = 0 := vl_dip _ s w1 (r : Int) 1 (by omega) (by omega)
      have e2 : vlA (atP ps tl) s (r : Int) 1 (w1 ++ w2) = 0 := by rw [hvl, e1, vl_zero]
      rw [e1] at hv1
      refine o_next (o_ret (x := .val (.bl true)) (S1 := S) (e_and (c := true) (d := true) (e_bin (x := wI 0) (y := wI 0) (S1 := S) (S2 := S) (e_me (S2 := S) (ws := [wI (s : Nat), wI (r : Nat), .val (.str (wd w1))]) rfl rfl rfl hv1) rfl rfl) fun _ => e_bin (x := wI 0) (y := wI 0) (S1 := S) (S2 := S) ?_ rfl rfl) rfl)
      rw [e2]; rfl
end HT

set_option maxRecDepth 100000
set_option linter.all false
set_option Elab.async false
/-! A9: numbers changed, moved, raised; falling, steady; positive, plain. -/
namespace HT
open PySem G
theorem mk_own (ws : List W) (S : Hs) (h : ws.length ≤ 16777216) : mkLst true ws S = .ok (.ref S.length) (S ++ [some (.lst ws)]) := by
  unfold mkLst
  rw [if_pos h, if_pos rfl]
section
variable {P : G.Env → Hs → Prop} {Q : RS → Prop} {ρ ρ1 : G.Env} {S S1 S2 S3 : Hs} {x y z : W} {ws us : List W}
theorem o_asgSub {a o i : Ev} {b : Es} {j n : Nat} (ha : a ρ S = .ok x S1) (ho : o ρ S1 = .ok (.ref j) S1) (hi : i ρ S1 = .ok (wI (n : Nat)) S1) (hc : S1[j]? = some (some (.lst ws))) (hn : n < ws.length)
    (k : Out P Q (b ρ (S1.set j (some (.lst (ws.set n x)))))) : Out P Q (esSeq (esAsg a (egSub o i)) b ρ S) := by
  have e : esAsg a (egSub o i) ρ S = .nx ρ (S1.set j (some (.lst (ws.set n x)))) := by
    unfold esAsg egSub
    rw [ha]
    dsimp only [G.R.thenS]
    rw [ho]
    dsimp only [G.R.thenS]
    rw [hi]
    dsimp only [G.R.thenS]
    have q : gSet (.ref j) (wI (n : Nat)) x S1 = some (S1.set j (some (.lst (ws.set n x)))) := by
      unfold gSet cellL
      dsimp only
      rw [hc]
      dsimp only
      have q2 : L2.ixN ws.length (n : Int) = some n := by
        unfold L2.ixN
        rw [if_pos (by omega), if_pos (by omega), Int.toNat_natCast]
      rw [q2]
      rfl
    rw [q]
  rw [seq_nx e]
  exact k
end
theorem e_mkL {i n m : Nat} {c : Str} {run : G.Run} {put : List W → List W → List W} {a k : Ea} {ρ : G.Env} {S : Hs} {r : G.R W} (hi : ρ[i]? = some (some (.val (.cls c)))) (h : evMk c n m run put a k ρ S = r) : evMkL i c n m run put a k ρ S = r := by
  unfold evMkL
  rw [hi]
  dsimp only
  rw [if_pos rfl]
  exact h
theorem max_int (i j : Int) (S : Hs) : gMax2 [wI i, wI j] S = .ok (wI (if j > i then j else i)) S := rfl
theorem atP_set {cs : List (Int × Int)} {tl p : Int × Int} {n : Nat} (h : n < cs.length) (k : Nat) : atP (cs.set n p) tl k = if k = n then p else atP cs tl k := by
  unfold atP
  by_cases q : k = n
  · subst q; rw [List.getElem?_set_self h, if_pos rfl]; rfl
  · rw [List.getElem?_set_ne (Ne.symm q), if_neg q]
theorem atP_map (f : Nat → Int × Int) (tl : Int × Int) (m k : Nat) : atP ((List.range m).map f) tl k = if k < m then f k else tl := by
  unfold atP
  by_cases q : k < m
  · rw [List.getElem?_map, List.getElem?_range q, if_pos q]; rfl
  · rw [List.getElem?_eq_none (by simp; omega), if_neg q]; rfl
theorem atP_far {qs : List (Int × Int)} {tl : Int × Int} {k : Nat} (h : qs.length ≤ k) : atP qs tl k = tl := by
  unfold atP
  rw [List.getElem?_eq_none h]; rfl
theorem v_changed (qs : List (Int × Int)) (tl : Int × Int) (hq : ∀ k, 0 ≤ (atP qs tl k).1) (ht : 0 ≤ tl.1) (hl : qs.length ≤ 1000) (n : Nat) (hn : n ≤ 1000) (pd : G.D) (p : Int × Int) (hp : ∀ S, PairW S (.val pd) p) (h0 : 0 ≤ p.1) (S : Hs) :
    ∃ cs, callV r_Numbers_changed [.val (numD qs tl), wI (n : Nat), .val pd] S = .ok (.val (numD (trim cs tl) tl)) S ∧ ∀ k, atP cs tl k = if k = n then p else atP qs tl k := by
  let m := max (n + 1) qs.length
  have hm : m = max (n + 1) qs.length := rfl
  refine ⟨((List.range m).map fun k => atP qs tl k).set n p, ?_, fun k => ?_⟩
  · refine call_of rfl rfl ?_
    unfold x_Numbers_changed
    refine o_drop (e_cb (ws := [wI (n : Nat)]) rfl (v_any _ _ (by omega))) ?_
    refine o_pass (S1 := []) (t_not (c := true) (t_v (e_cb (ws := [.val pd]) rfl (v_pair (hp _) h0)))) ?_
    have lc : evLc true [4] (eiRng1 (eaCons (evCB gMax2 (eaCons (evBin (gAdd false) (evVar 1) (evC (.int 1))) (eaCons (evCB gLen (eaCons (evFld ["Numbers"] "pairs" (evVar 0)) eaNil)) eaNil))) eaNil)) (.one (egName 4)) etYes (evSubO "Numbers" r_Numbers___getitem__ (evVar 0) (evVar 4))
        (startE 5 [.val (numD qs tl), wI (n : Nat), .val pd]) [] = .ok (.ref 0) [some (.lst ((List.range m).map fun k => W.val (prD (atP qs tl k))))] := by
      refine (e_lcr (k := m) (S1 := []) (g := fun k => W.val (prD (atP qs tl k))) (a_cons (us := []) (e_cb (ws := [wI ((n : Int) + 1), wI (qs.length : Nat)]) (S1 := []) (a_cons (S1 := []) rfl (a_cons (us := []) (S1 := []) (e_cb (ws := [.val (.tup (qs.map prD))]) (S1 := []) (a_cons (us := []) (e_pairs rfl) rfl) ?_) rfl)) ?_) rfl) (by omega) fun i hi => ?_).trans ?_
      · rw [len_look (look_tup ..), List.length_map, List.length_map]
      · rw [max_int]
        have e : (if (qs.length : Int) > (n : Int) + 1 then (qs.length : Int) else (n : Int) + 1) = (m : Int) := by
          rw [hm]
          by_cases q : (qs.length : Int) > (n : Int) + 1
          · rw [if_pos q]; omega
          · rw [if_neg q]; omega
        rw [e]
      · exact e_at (n := i) rfl rfl
      · rw [mk_own _ _ (by simp; omega)]; rfl
    refine o_asg lc ?_
    refine o_asgSub (x := .val pd) (j := 0) (n := n) (ws := (List.range m).map fun k => W.val (prD (atP qs tl k))) (S1 := [some (.lst ((List.range m).map fun k => W.val (prD (atP qs tl k))))]) rfl rfl rfl rfl (by simp; omega) ?_
    obtain ⟨S', e1, _⟩ := v_make (S := [some (.lst (((List.range m).map fun k => W.val (prD (atP qs tl k))).set n (.val pd)))]) (px := .ref 0) (tx := .val (prD tl)) (kd := .l) (rows := ((List.range m).map fun k => W.val (prD (atP qs tl k))).set n (.val pd)) (ps := ((List.range m).map fun k => atP qs tl k).set n p) (tl := tl) rfl (by decide) ⟨by simp, fun i w q e f => by
        by_cases z : i = n
        · subst z
          rw [List.getElem?_set_self (by simp; omega)] at e f
          rw [← Option.some.inj e, ← Option.some.inj f]
          exact hp _
        · rw [List.getElem?_set_ne (Ne.symm z)] at e f
          rw [List.getElem?_map] at e f
          cases e2 : (List.range m)[i]? with
          | none => rw [e2] at e; cases e
          | some j =>
            rw [e2] at e f
            rw [← Option.some.inj e, ← Option.some.inj f]
            exact pair_t _ _⟩ (by simp; omega) (pair_t _ _) (fun q hq2 => by
        rcases List.mem_or_eq_of_mem_set hq2 with z | z
        · obtain ⟨j, _, rfl⟩ := List.mem_map.mp z; exact hq j
        · rw [z]; exact h0) ht
    exact o_ret (e_mk (ws := [.ref 0]) (us := [.val (prD tl)]) rfl (a_cons (e_tail rfl) rfl) ⟨rfl, rfl⟩ e1) ⟨_, rfl⟩
  · rw [atP_set (by simp; omega), atP_map]
    by_cases q : k = n
    · rw [if_pos q, if_pos q]
    · rw [if_neg q, if_neg q]
      by_cases z : k < m
      · rw [if_pos z]
      · rw [if_neg z, atP_far (by omega)]
theorem v_moved (qs : List (Int × Int)) (tl : Int × Int) (hq : ∀ p, p ∈ qs → 0 ≤ p.1) (ht : 0 ≤ tl.1) (hl : qs.length ≤ 1000) (n : Nat) (S : Hs) :
    callV r_Numbers_moved [.val (numD qs tl), wI (n : Nat)] S = .ok (.val (numD (trim (qs.drop n) tl) tl)) S := by
  refine call_of rfl rfl ?_
  unfold x_Numbers_moved
  refine o_drop (e_cb (ws := [.val (.str _), wI (n : Nat), wI 0]) rfl (v_number _ _ _ (by omega))) ?_
  have hc : ∀ ds : List G.D, cutW ds (some (n : Int)) none = ds.drop n := fun ds => by
    unfold cutW
    rw [HT.sIx_none, HT.sIx_nat]
    by_cases q : n ≤ ds.length
    · rw [Nat.min_eq_left q, List.take_of_length_le (by simp)]
    · rw [Nat.min_eq_right (by omega), List.drop_eq_nil_of_le (Nat.le_refl _), List.drop_eq_nil_of_le (by omega)]; simp
  have sl : evSl false (evFld ["Numbers"] "pairs" (evVar 0)) (eoSome (evVar 1)) eoNone (startE 2 [.val (numD qs tl), wI (n : Nat)]) [] = .ok (.val (.tup ((qs.drop n).map prD))) [] := by
    unfold evSl
    rw [e_pairs (ps := qs) (tl := tl) (S1 := []) rfl]
    show gSl false (.val (.tup (qs.map prD))) (some (n : Int)) none [] = _
    unfold gSl
    dsimp only
    rw [hc, List.map_drop]
  have mk := v_makeP (S := []) (px := .tup ((qs.drop n).map prD)) (tx := prD tl) (kd := .t) (rows := ((qs.drop n).map prD).map .val) (ps := qs.drop n) (tl := tl) rfl (by decide) (RowsW.plain _ _) (by simp; omega) (pair_t _ _) (fun p hp => hq p (List.mem_of_mem_drop hp)) ht
  exact o_ret (e_mk (ws := [.val (.tup ((qs.drop n).map prD))]) (us := [.val (prD tl)]) (a_cons (us := []) sl rfl) (a_cons (us := []) (e_tail rfl) rfl) ⟨rfl, rfl⟩ mk) ⟨_, rfl⟩
theorem flat_rep (d : G.D) (n : Nat) : (List.replicate n [W.val d]).flatten = (List.replicate n d).map .val := by
  induction n with
  | zero => rfl
  | succ n ih => rw [List.replicate_succ, List.flatten_cons, ih, List.replicate_succ]; rfl
theorem rep_lst (d : G.D) (n : Nat) (h : n ≤ 1000) (S : Hs) : gMul false (.val (.lst [d])) (wI (n : Nat)) S = .ok (.val (.lst (List.replicate n d))) S := by
  show repL false (.val (.lst [d])) (n : Int) S = _
  unfold repL
  show (if -(2 ^ 63) ≤ (n : Int) ∧ (n : Int) < 2 ^ 63 then mkLst false (List.replicate (n : Int).toNat [W.val d]).flatten S else .no) = _
  have e : (2 : Int) ^ 63 = 9223372036854775808 := by decide
  rw [if_pos (by rw [e]; omega), Int.toNat_natCast, flat_rep, mk_plain (by simp; omega)]
theorem v_raised (qs : List (Int × Int)) (tl : Int × Int) (hq : ∀ p, p ∈ qs → 0 ≤ p.1) (ht : 0 ≤ tl.1) (hl : qs.length ≤ 1000) (n : Nat) (hn : n ≤ 1000) (pd : G.D) (p : Int × Int) (hp : ∀ S, PairW S (.val pd) p) (h0 : 0 ≤ p.1) (S : Hs) :
    callV r_Numbers_raised [.val (numD qs tl), wI (n : Nat), .val pd] S = .ok (.val (numD (trim (List.replicate n p ++ qs) tl) tl)) S := by
  refine call_of rfl rfl ?_
  unfold x_Numbers_raised
  refine o_drop (e_cb (ws := [.val (.str _), wI (n : Nat), wI 0]) rfl (v_number _ _ _ (by omega))) ?_
  refine o_pass (S1 := []) (t_not (c := true) (t_v (e_cb (ws := [.val pd]) rfl (v_pair (hp _) h0)))) ?_
  have row : evBin (gAdd false) (evBin (gMul false) (evLst false (eaCons (evVar 2) eaNil)) (evVar 1)) (evCB (gList false) (eaCons (evFld ["Numbers"] "pairs" (evVar 0)) eaNil)) (startE 3 [.val (numD qs tl), wI (n : Nat), .val pd]) [] = .ok (.val (.lst (List.replicate n pd ++ qs.map prD))) [] := by
    refine e_bin (x := .val (.lst (List.replicate n pd))) (y := .val (.lst (qs.map prD))) (S1 := []) (S2 := []) (e_bin (x := .val (.lst [pd])) (y := wI (n : Nat)) (S1 := []) (S2 := []) rfl rfl (rep_lst pd n hn [])) (e_cb (ws := [.val (.tup (qs.map prD))]) (S1 := []) (a_cons (us := []) (e_pairs rfl) rfl) ?_) ?_
    · show mkLst false ((qs.map prD).map .val) [] = _
      exact mk_plain (by simp; omega)
    · show mkLst false ((List.replicate n pd).map W.val ++ (qs.map prD).map .val) [] = _
      rw [← List.map_append]
      exact mk_plain (by simp; omega)
  have mk := v_makeP (S := []) (px := .lst (List.replicate n pd ++ qs.map prD)) (tx := prD tl) (kd := .l) (rows := (List.replicate n pd ++ qs.map prD).map .val) (ps := List.replicate n p ++ qs) (tl := tl) rfl (by decide) ⟨by simp, fun i w q e f => by
      rw [List.getElem?_map] at e
      by_cases z : i < n
      · rw [List.getElem?_append_left (by simp; omega), List.getElem?_replicate_of_lt z] at e f
        rw [← Option.some.inj e, ← Option.some.inj f]
        exact hp _
      · rw [List.getElem?_append_right (by simp; omega)] at e f
        rw [List.length_replicate] at e f
        rw [List.getElem?_map, f] at e
        rw [← Option.some.inj e]
        exact pair_t _ _⟩ (by simp; omega) (pair_t _ _) (fun q hq2 => by
      rcases List.mem_append.mp hq2 with z | z
      · rw [List.eq_of_mem_replicate z]; exact h0
      · exact hq q z) ht
  exact o_ret (e_mk (ws := [.val (.lst (List.replicate n pd ++ qs.map prD))]) (us := [.val (prD tl)]) (a_cons (us := []) row rfl) (a_cons (us := []) (e_tail rfl) rfl) ⟨rfl, rfl⟩ mk) ⟨_, rfl⟩
theorem atP_rep (qs : List (Int × Int)) (tl p : Int × Int) (n k : Nat) : atP (List.replicate n p ++ qs) tl k = if k < n then p else atP qs tl (k - n) := by
  unfold atP
  by_cases q : k < n
  · rw [List.getElem?_append_left (by simp; omega), List.getElem?_replicate_of_lt q, if_pos q]; rfl
  · rw [List.getElem?_append_right (by simp; omega), List.length_replicate, if_neg q]
theorem atP_drop (qs : List (Int × Int)) (tl : Int × Int) (n k : Nat) : atP (qs.drop n) tl k = atP qs tl (n + k) := by
  unfold atP
  rw [List.getElem?_drop]
theorem v_positive (qs : List (Int × Int)) (tl : Int × Int) (hl : qs.length ≤ 1000) (S : Hs) : callV r_Numbers_is_positive [.val (numD qs tl)] S = .ok (.val (.bl (decide (1 ≤ tl.2) && qs.all fun p => decide (1 ≤ p.2)))) S := by
  refine call_of rfl rfl ?_
  unfold x_Numbers_is_positive
  refine o_ret (x := .val (.bl (decide (1 ≤ tl.2) && qs.all fun p => decide (1 ≤ p.2)))) (S1 := []) (e_and (c := decide (1 ≤ tl.2)) (d := qs.all fun p => decide (1 ≤ p.2)) (e_bin (x := wI tl.2) (y := wI 1) (S1 := []) (S2 := []) (e_bin (e_tail rfl) rfl (ix1 ..)) rfl rfl) fun _ => ?_) ⟨_, rfl⟩
  refine e_cb (ws := [.val (.lst ((qs.map fun p => decide (1 ≤ p.2)).map G.D.bl))]) (S1 := []) (a_cons (us := []) ?_ rfl) ?_
  · refine (e_lcsY (x := .val (.tup (qs.map prD))) (kd := .t) (ws := (qs.map prD).map .val) (S1 := []) (e_pairs rfl) rfl (by simp; omega) (g := fun w => match w with
      | .val (.tup [.int _, .int r]) => .val (.bl (decide (1 ≤ r)))
      | w => w) fun w hw => ?_).trans ?_
    · obtain ⟨d, hd, rfl⟩ := List.mem_map.mp hw
      obtain ⟨p, _, rfl⟩ := List.mem_map.mp hd
      exact e_bin (x := wI p.2) (y := wI 1) (S1 := []) (S2 := []) (e_bin (x := .val (prD p)) (y := wI 1) (S1 := []) (S2 := []) rfl rfl (ix1 ..)) rfl rfl
    · rw [List.map_map, List.map_map]
      show mkLst false (qs.map fun p => W.val (.bl (decide (1 ≤ p.2)))) [] = _
      have e : (qs.map fun p => W.val (.bl (decide (1 ≤ p.2)))) = ((qs.map fun p => decide (1 ≤ p.2)).map G.D.bl).map .val := by rw [List.map_map, List.map_map]; rfl
      rw [e]
      exact mk_plain (by simp; omega)
  · rw [gAll_bl, List.all_map]; rfl
theorem v_plain (qs : List (Int × Int)) (tl : Int × Int) (hl : qs.length ≤ 1000) (S : Hs) : callV r_Numbers_is_plain [.val (numD qs tl)] S = .ok (.val (.bl (decide (tl.1 = 1) && qs.all fun p => decide (p.1 = 1)))) S := by
  refine call_of rfl rfl ?_
  unfold x_Numbers_is_plain
  refine o_ret (x := .val (.bl (decide (tl.1 = 1) && qs.all fun p => decide (p.1 = 1)))) (S1 := []) (e_and (c := decide (tl.1 = 1)) (d := qs.all fun p => decide (p.1 = 1)) (e_bin (x := wI tl.1) (y := wI 1) (S1 := []) (S2 := []) (e_bin (e_tail rfl) rfl (ix0 ..)) rfl (gEq_int ..)) fun _ => ?_) ⟨_, rfl⟩
  refine e_cb (ws := [.val (.lst ((qs.map fun p => decide (p.1 = 1)).map G.D.bl))]) (S1 := []) (a_cons (us := []) ?_ rfl) ?_
  · refine (e_lcsY (x := .val (.tup (qs.map prD))) (kd := .t) (ws := (qs.map prD).map .val) (S1 := []) (e_pairs rfl) rfl (by simp; omega) (g := fun w => match w with
      | .val (.tup [.int q, .int _]) => .val (.bl (decide (q = 1)))
      | w => w) fun w hw => ?_).trans ?_
    · obtain ⟨d, hd, rfl⟩ := List.mem_map.mp hw
      obtain ⟨p, _, rfl⟩ := List.mem_map.mp hd
      exact e_bin (x := wI p.1) (y := wI 1) (S1 := []) (S2 := []) (e_bin (x := .val (prD p)) (y := wI 0) (S1 := []) (S2 := []) rfl rfl (ix0 ..)) rfl (gEq_int ..)
    · rw [List.map_map, List.map_map]
      show mkLst false (qs.map fun p => W.val (.bl (decide (p.1 = 1)))) [] = _
      have e : (qs.map fun p => W.val (.bl (decide (p.1 = 1)))) = ((qs.map fun p => decide (p.1 = 1)).map G.D.bl).map .val := by rw [List.map_map, List.map_map]; rfl
      rw [e]
      exact mk_plain (by simp; omega)
  · rw [gAll_bl, List.all_map]; rfl
theorem v_steady (p : Int × Int) (h0 : 0 ≤ p.1) (S : Hs) : callV r_Numbers_steady [.val (.cls "Numbers"), wI p.1, wI p.2] S = .ok (.val (numD (trim [] p) p)) S := by
  refine call_of rfl rfl ?_
  unfold x_Numbers_steady
  have mk := v_makeP (S := []) (px := .lst []) (tx := prD p) (kd := .l) (rows := []) (ps := []) (tl := p) rfl (by decide) ⟨rfl, fun i w q e f => by simp at f⟩ (by decide) (pair_t _ _) (fun q hq => by cases hq) h0
  refine o_ret (x := .val (numD (trim [] p) p)) (S1 := []) ?_ ⟨_, rfl⟩
  refine e_mkL rfl ?_
  exact e_mk (ws := [.val (.lst [])]) (us := [.val (prD p)]) rfl rfl ⟨rfl, rfl⟩ mk
def fallL (n : Nat) : List (Int × Int) := (List.range (n + 1)).map fun k : Nat => ((1 : Int), (n : Int) - 2 * (k : Int))
def fallT (n : Nat) : Int × Int := (1, -(n : Int) - 2)
theorem fall_make (n : Nat) (hn : n ≤ 1000) (S : Hs) : callV (makeR "Numbers" r_Numbers___init__) [.val (.lst ((fallL n).map prD)), .val (prD (fallT n))] S = .ok (.val (numD (trim (fallL n) (fallT n)) (fallT n))) S :=
  v_makeP (kd := .l) (rows := ((fallL n).map prD).map .val) (ps := fallL n) rfl (by decide) (RowsW.plain _ _) (by unfold fallL; simp; omega) (pair_t _ _) (fun q hq => by
    obtain ⟨k, _, rfl⟩ := List.mem_map.mp hq
    show (0 : Int) ≤ 1
    decide) (show (0 : Int) ≤ 1 by decide)
theorem two_mul_ok (k : Nat) (hk : k ≤ 1000) (S : Hs) : gMul false (wI 2) (wI (k : Nat)) S = .ok (wI (2 * (k : Int))) S := by
  refine mul_ok (cm_of (e := 2) (f := 10) (by unfold Sz; decide) ?_ (by omega))
  unfold Sz
  simp
  omega
/-- the row of a comprehension over ranks, in any slots -/
theorem fall_row {ρ : G.Env} {S : Hs} {a v : Nat} (n : Nat) (hn : n ≤ 999) (ha : ∀ k : Nat, ((wipeE ρ [v]).set v (some (wI (k : Nat))))[a]? = some (some (wI (n : Nat)))) (hb : ∀ k : Nat, ((wipeE ρ [v]).set v (some (wI (k : Nat))))[v]? = some (some (wI (k : Nat)))) (hr : ρ[a]? = some (some (wI (n : Nat)))) :
    evLc false [v] (eiRng1 (eaCons (evBin (gAdd false) (evVar a) (evC (.int 1))) eaNil)) (.one (egName v)) etYes (evTup (eaCons (evC (.int 1)) (eaCons (evBin (gMinus) (evVar a) (evBin (gMul false) (evC (.int 2)) (evVar v))) eaNil))) ρ S = .ok (.val (.lst ((fallL n).map prD))) S := by
  have var : ∀ {ρ : G.Env} {i : Nat} {w : W} {S : Hs}, ρ[i]? = some (some w) → evVar i ρ S = .ok w S := fun h => by
    unfold evVar
    rw [h]
  refine (e_lcr (k := n + 1) (S1 := S) (g := fun k => W.val (prD (1, (n : Int) - 2 * (k : Int)))) (a_cons (us := []) (e_bin (x := wI (n : Nat)) (y := wI 1) (S1 := S) (S2 := S) (var hr) rfl rfl) rfl) (by omega) fun i hi => ?_).trans ?_
  · refine e_cb (ws := [wI 1, wI ((n : Int) - 2 * (i : Int))]) (S1 := S) (a_cons (S1 := S) rfl (a_cons (S1 := S) (us := []) (e_bin (x := wI (n : Nat)) (y := wI (2 * (i : Int))) (S1 := S) (S2 := S) (var (ha i)) (e_bin (x := wI 2) (y := wI (i : Nat)) (S1 := S) (S2 := S) rfl (var (hb i)) (two_mul_ok i (by omega) S)) rfl) rfl)) rfl
  · have e : ((List.range (n + 1)).map fun k : Nat => W.val (prD (1, (n : Int) - 2 * (k : Int)))) = ((fallL n).map prD).map .val := by
      unfold fallL
      rw [List.map_map, List.map_map]; rfl
    rw [e]
    exact mk_plain (by unfold fallL; simp; omega)
theorem v_falling (n : Nat) (hn : n ≤ 999) (S : Hs) : callV r_Numbers_falling [.val (.cls "Numbers"), wI (n : Nat)] S = .ok (.val (numD (trim (fallL n) (fallT n)) (fallT n))) S := by
  refine call_of rfl rfl ?_
  unfold x_Numbers_falling
  refine o_drop (e_cb (ws := [.val (.str _), wI (n : Nat), wI 0]) rfl (v_number _ _ _ (by omega))) ?_
  refine o_ret (x := .val (numD (trim (fallL n) (fallT n)) (fallT n))) (S1 := []) ?_ ⟨_, rfl⟩
  refine e_mkL rfl ?_
  exact e_mk (ws := [.val (.lst ((fallL n).map prD))]) (us := [.val (prD (fallT n))]) (a_cons (us := []) (fall_row (a := 1) (v := 2) n hn (fun _ => rfl) (fun _ => rfl) rfl) rfl) rfl ⟨rfl, rfl⟩ (fall_make n (by omega) [])
theorem v_same_from (qs us : List (Int × Int)) (tl ul : Int × Int) (m d : Nat) (hm : m ≤ 1000) (h : ∀ k, k < m → atP qs tl (k + d) = atP us ul k) (S : Hs) : callV r__law_same_from [.val (numD qs tl), .val (numD us ul), wI (m : Nat), wI (d : Nat)] S = .ok (.val (.bl true)) S := by
  refine call_of rfl rfl ?_
  unfold x__law_same_from
  refine o_rng1 (k := m) (fun i ρ S => S = [] ∧ ∃ u, ρ = [some (.val (numD qs tl)), some (.val (numD us ul)), some (wI (m : Nat)), some (wI (d : Nat)), u]) (S1 := []) rfl (by omega) ⟨rfl, none, rfl⟩ (fun i ρ S hi hI => ?_) (fun ρ S hI => ?_)
  · obtain ⟨rfl, u, rfl⟩ := hI
    refine o_pass (S1 := []) (t_v (e_bin (x := .val (prD (atP qs tl (i + d)))) (y := .val (prD (atP us ul i))) (S1 := []) (S2 := []) (e_at (n := i + d) rfl rfl) (e_at (n := i) rfl rfl) ?_)) (o_next ⟨rfl, _, rfl⟩)
    rw [gNe_of (eq_pr ..), h i hi]; simp
  · obtain ⟨rfl, u, rfl⟩ := hI
    exact o_ret (x := .val (.bl true)) (S1 := []) rfl ⟨_, rfl⟩
end HT

set_option maxRecDepth 100000
set_option linter.all false
set_option Elab.async false
/-! A10: what is drawn; the law's look at changed numbers. -/
namespace HT
open PySem G
theorem call_ref {np n : Nat} {b : Es} {ws : List W} {w : W} {S : Hs} {R : Hs → Prop} (hv : vals? ws = none) (hl : ws.length = np) (h : Out PF (fun r => ∃ S', r = .rt w S' ∧ R S') (b (startE n ws) S)) : ∃ S', callV (runF np n b) ws S = .ok w S' ∧ R S' := by
  unfold callV runF
  rw [hv]
  dsimp only
  rw [if_pos hl]
  cases e : b (startE n ws) S with
  | nx ρ S1 => rw [e] at h; exact h.o.elim
  | rt w S1 => rw [e] at h; obtain ⟨S', q, r⟩ := h.o; cases q; exact ⟨_, rfl, r⟩
  | exc c fs ρ S1 => rw [e] at h; obtain ⟨S', q, r⟩ := h.o; cases q
  | ct ρ S1 => rw [e] at h; exact h.o.elim
  | bk ρ S1 => rw [e] at h; exact h.o.elim
  | no => rw [e] at h; exact h.o.elim
def drw (l : List Nat) : Cell := .lst (l.map fun n : Nat => wI (n : Int))
theorem set_same {S : Hs} {i : Nat} {c : Option Cell} (h : S[i]? = some c) : S.set i c = S := by
  have hi : i < S.length := by
    rcases Nat.lt_or_ge i S.length with z | z
    · exact z
    · rw [List.getElem?_eq_none z] at h; cases h
  refine List.ext_getElem? fun j => ?_
  by_cases q : i = j
  · subst q; rw [List.getElem?_set_self hi, h]
  · rw [List.getElem?_set_ne q]
theorem cell_look {S : Hs} {i : Nat} {ws : List W} (h : S[i]? = some (some (.lst ws))) : look (.ref i) S = some (.l, ws) := by
  unfold look
  dsimp only
  rw [h]
theorem v_take {S : Hs} {i m : Nat} {l : List Nat} (h : S[i]? = some (some (drw l))) (hm : 0 < m) : ∃ v l', v < m ∧ callV r__law_take [.ref i, wI (m : Nat)] S = .ok (wI (v : Nat)) (S.set i (some (drw l'))) := by
  have hi : i < S.length := by
    rcases Nat.lt_or_ge i S.length with z | z
    · exact z
    · rw [List.getElem?_eq_none z] at h; cases h
  rcases List.eq_nil_or_concat l with rfl | ⟨l', n, rfl⟩
  · refine ⟨0, [], hm, ?_⟩
    obtain ⟨S', e, e2⟩ := call_ref (np := 2) (n := 2) (b := x__law_take) (ws := [.ref i, wI (m : Nat)]) (w := wI 0) (S := S) (R := fun S' => S' = S) rfl rfl (by
      unfold x__law_take
      refine o_ifT (S1 := S) (t_v (e_bin (x := wI 0) (y := wI 0) (S1 := S) (S2 := S) (e_cb (ws := [.ref i]) rfl (len_look (cell_look h))) rfl rfl)) ?_
      exact o_ret (x := wI 0) (S1 := S) rfl ⟨S, rfl, rfl⟩)
    subst e2
    exact e.trans (by rw [set_same h]; rfl)
  · refine ⟨n % m, l', Nat.mod_lt _ hm, ?_⟩
    have hd : drw (l' ++ [n]) = .lst ((l'.map fun n : Nat => wI (n : Int)) ++ [wI (n : Int)]) := by unfold drw; rw [List.map_append]; rfl
    have h2 : S[i]? = some (some (.lst ((l'.map fun n : Nat => wI (n : Int)) ++ [wI (n : Int)]))) := by rw [← hd]; simpa using h
    obtain ⟨S', e, e2⟩ := call_ref (np := 2) (n := 2) (b := x__law_take) (ws := [.ref i, wI (m : Nat)]) (w := wI ((n % m : Nat) : Int)) (S := S) (R := fun S' => S' = S.set i (some (drw l'))) rfl rfl (by
      unfold x__law_take
      refine o_pass (S1 := S) (t_v (e_bin (x := wI ((l'.length + 1 : Nat) : Int)) (y := wI 0) (S1 := S) (S2 := S) (e_cb (ws := [.ref i]) rfl ?_) rfl ?_)) ?_
      · rw [len_look (cell_look h2)]; simp
      · rw [gEq_int]
        have : decide (((l'.length + 1 : Nat) : Int) = 0) = false := by simp; omega
        rw [this]
      · refine o_ret (x := wI ((n % m : Nat) : Int)) (S1 := S.set i (some (drw l'))) (e_bin (x := wI (n : Int)) (y := wI (m : Int)) (S1 := S.set i (some (drw l'))) (S2 := S.set i (some (drw l'))) (e_cb (ws := [wI (n : Int)]) (S1 := S.set i (some (drw l'))) (a_cons (us := []) ?_ rfl) rfl) rfl ?_) ⟨_, rfl, rfl⟩
        · unfold evBM0
          show (if isL (.ref i) S = true then gPop (.ref i) [] S else .no) = _
          have e1 : isL (.ref i) S = true := by
            unfold isL
            rw [cell_look h2]
          rw [if_pos e1]
          unfold gPop cellL
          dsimp only
          rw [h2]
          dsimp only
          rw [List.length_append, List.length_singleton, Nat.add_sub_cancel, List.getElem?_append_right (Nat.le_refl _), Nat.sub_self]
          dsimp only [List.getElem?_cons_zero]
          rw [List.dropLast_concat]
          rfl
        · show (if 0 < (m : Int) then G.R.ok (W.val (.int ((n : Int) % (m : Int)))) _ else .no) = _
          rw [if_pos (by omega)]
          rfl)
    subst e2
    exact e
theorem draws_get {S : Hs} {i : Nat} {l l' : List Nat} (h : S[i]? = some (some (drw l))) : (S.set i (some (drw l')))[i]? = some (some (drw l')) := by
  have hi : i < S.length := by
    rcases Nat.lt_or_ge i S.length with z | z
    · exact z
    · rw [List.getElem?_eq_none z] at h; cases h
  rw [List.getElem?_set_self hi]
theorem ps_set {S : Hs} {c : Option Cell} {j i : Nat} {ps : List (Int × Int)} (h : PsW S (.ref j) ps) (n : i ≠ j) : PsW (S.set i c) (.ref j) ps := by
  unfold PsW look at h ⊢
  dsimp only at h ⊢
  rw [List.getElem?_set_ne n]
  exact h
/-- the pairs of which something holds, counted by the law -/
theorem filt_len {ρ : G.Env} {S : Hs} {x : W} {ps : List (Int × Int)} {v a : Nat} {t : Et} {f : Int × Int → Bool} (h : PsW S x ps) (hl : ps.length ≤ 1000) (hx : ρ[a]? = some (some x)) (hv : ∀ w : W, ((wipeE ρ [v]).set v (some w))[v]? = some (some w))
    (ht : ∀ p : Int × Int, t ((wipeE ρ [v]).set v (some (.val (prD p)))) S = .ok (f p) S) :
    evBin gEq (evCB gLen (eaCons (evLc false [v] (eiSeq (evVar a)) (.one (egName v)) t (evVar v)) eaNil)) (evC (.int 0)) ρ S = .ok (.val (.bl (!ps.any f))) S := by
  have var : ∀ {ρ : G.Env} {i : Nat} {w : W} {S : Hs}, ρ[i]? = some (some w) → evVar i ρ S = .ok w S := fun h => by
    unfold evVar
    rw [h]
  have lc : evLc false [v] (eiSeq (evVar a)) (.one (egName v)) t (evVar v) ρ S = .ok (.val (.lst ((ps.filter f).map prD))) S := by
    refine (e_lcs (x := x) (kd := .l) (ws := (ps.map prD).map .val) (S1 := S) (var hx) h (by simp; omega) (p := fun w => match w with
      | .val (.tup [.int q, .int r]) => f (q, r)
      | _ => false) (g := fun w => w) (fun w hw => ?_) fun w hw _ => var (hv w)).trans ?_
    · obtain ⟨d, hd, rfl⟩ := List.mem_map.mp hw
      obtain ⟨p, _, rfl⟩ := List.mem_map.mp hd
      exact ht p
    · rw [List.map_id', List.map_map, List.filter_map]
      have e : ((ps.filter ((fun w => match w with
        | W.val (.tup [.int q, .int r]) => f (q, r)
        | _ => false) ∘ (W.val ∘ prD))).map (W.val ∘ prD)) = ((ps.filter f).map prD).map .val := by
        rw [List.map_map]
        congr 1
      rw [e]
      exact mk_plain (by have := List.length_filter_le f ps; simp; omega)
  refine e_bin (x := wI ((ps.filter f).length : Nat)) (y := wI 0) (S1 := S) (S2 := S) (e_cb (ws := [.val (.lst ((ps.filter f).map prD))]) (S1 := S) (a_cons (us := []) lc rfl) ?_) rfl ?_
  · rw [len_look (kd := .l) (ws := ((ps.filter f).map prD).map .val) rfl]; simp
  · rw [gEq_int]
    congr 3
    by_cases q : ps.any f = true
    · rw [q]
      obtain ⟨p, hp, hf⟩ := List.any_eq_true.mp q
      have : 0 < (ps.filter f).length := List.length_pos_of_mem (List.mem_filter.mpr ⟨hp, hf⟩)
      have e : ¬ (((ps.filter f).length : Nat) : Int) = 0 := by omega
      rw [decide_eq_false e]; rfl
    · have q2 : ps.any f = false := by simpa using q
      rw [q2]
      have : ps.filter f = [] := by
        rw [List.filter_eq_nil_iff]
        intro p hp hf
        exact q (List.any_eq_true.mpr ⟨p, hp, hf⟩)
      rw [this]; rfl
theorem all_trim {ps : List (Int × Int)} {tl : Int × Int} {f : Int × Int → Bool} : (f tl && (trim ps tl).all f) = (f tl && !ps.any fun p => !f p) := by
  cases ht : f tl with
  | false => rfl
  | true =>
    rw [Bool.true_and, Bool.true_and, Bool.eq_iff_iff]
    constructor
    · intro h
      rw [Bool.not_eq_true', List.any_eq_false]
      intro p hp
      obtain ⟨i, hi, e⟩ := List.getElem_of_mem hp
      have e2 : atP ps tl i = p := by unfold atP; rw [List.getElem?_eq_getElem hi, e]; rfl
      rw [← atP_trim] at e2
      unfold atP at e2
      cases q : (trim ps tl)[i]? with
      | none => rw [q] at e2; rw [← show tl = p from e2, ht]; simp
      | some p' =>
        rw [q] at e2
        have e3 : p' = p := e2
        subst e3
        rw [List.all_eq_true.mp h p' (List.mem_of_getElem? q)]; simp
    · intro h
      rw [Bool.not_eq_true', List.any_eq_false] at h
      rw [List.all_eq_true]
      intro p hp
      have := h p (List.mem_of_mem_take hp)
      simpa using this
end HT

set_option maxRecDepth 100000
set_option linter.all false
set_option Elab.async false
/-! A11: the law's look at changed numbers. -/
namespace HT
open PySem G
theorem set_trim {qs : List (Int × Int)} {tl : Int × Int} (h : ∀ k, 0 ≤ (atP qs tl k).1) : ∀ p, p ∈ trim qs tl → 0 ≤ p.1 := by
  intro p hp
  obtain ⟨i, hi, e⟩ := List.getElem_of_mem (List.mem_of_mem_take hp)
  have := h i
  unfold atP at this
  rw [List.getElem?_eq_getElem hi, e] at this
  exact this
theorem trim_short (qs : List (Int × Int)) (tl : Int × Int) : (trim qs tl).length ≤ qs.length := by
  unfold trim
  rw [List.length_take]
  omega
theorem ownT (ps qs : List (Int × Int)) (tl : Int × Int) (h : ps = qs) (S : Hs) : gOwnEq true "Numbers" T_any_Numbers r_Numbers___eq__ (.val (numD ps tl)) (.val (numD qs tl)) S = .ok (.val (.bl false)) S := by
  rw [own_eq, h]; simp
theorem ownF (ps qs : List (Int × Int)) (tl : Int × Int) (h : ps = qs) (S : Hs) : gOwnEq false "Numbers" T_any_Numbers r_Numbers___eq__ (.val (numD ps tl)) (.val (numD qs tl)) S = .ok (.val (.bl true)) S := by
  rw [own_eq, h]; simp
theorem e_cms {c : Str} {run : G.Run} {a : Ea} {ρ : G.Env} {S S1 : Hs} {ws : List W} {r : G.R W} (ha : a ρ S = .ok ws S1) (h : callV run (.val (.cls c) :: ws) S1 = r) : evCmS c run a ρ S = r := by
  unfold evCmS
  rw [ha]
  exact h
theorem e_prop {run : G.Run} {a : Ev} {ρ : G.Env} {S S1 : Hs} {qs : List (Int × Int)} {tl : Int × Int} {d : G.D} (ha : a ρ S = .ok (.val (numD qs tl)) S1) (h : callV run [.val (numD qs tl)] S1 = .ok (.val d) S1) : evProp "Numbers" run a ρ S = .ok (.val d) S1 := by
  unfold evProp
  refine e_un ha ?_
  show (if (PySem.Str.ofString "Numbers") = (PySem.Str.ofString "Numbers") then callN run [.val (numD qs tl)] S1 else .no) = _
  rw [if_pos rfl]
  unfold callN
  rw [h]
theorem v_changes_right {S : Hs} {ps : List (Int × Int)} {tl : Int × Int} {l : List Nat} (hd : S[0]? = some (some (drw l))) (h : PsW S (.ref 1) ps) (hq : ∀ k, 0 ≤ (atP ps tl k).1) (ht : 0 ≤ tl.1) (hl : ps.length ≤ 900) :
    ∃ S', callV r__law_changes_right [.ref 0, .val (numD (trim ps tl) tl), .ref 1, .val (prD tl)] S = .ok (.val (.bl true)) S' ∧ True := by
  refine call_ref rfl rfl ?_
  have hlt := trim_short ps tl
  obtain ⟨u, l1, hu, e1⟩ := v_take (m := 3) hd (by omega)
  obtain ⟨v, l2, hv, e2⟩ := v_take (m := 7) (draws_get (l' := l1) hd) (by omega)
  obtain ⟨n, l3, hn, e3⟩ := v_take (m := 4) (draws_get (l' := l2) (draws_get (l' := l1) hd)) (by omega)
  have hd3 := draws_get (l' := l3) (draws_get (l' := l2) (draws_get (l' := l1) hd))
  have h3 : PsW (((S.set 0 (some (drw l1))).set 0 (some (drw l2))).set 0 (some (drw l3))) (.ref 1) ps := ps_set (ps_set (ps_set h (by decide)) (by decide)) (by decide)
  generalize hS1 : S.set 0 (some (drw l1)) = S1 at *
  generalize hS2 : S1.set 0 (some (drw l2)) = S2 at *
  generalize hS3 : S2.set 0 (some (drw l3)) = S3 at *
  let p : Int × Int := ((u : Int), (v : Int) - 3)
  have hp0 : 0 ≤ p.1 := by show (0 : Int) ≤ (u : Int); omega
  have hqt : ∀ k, 0 ≤ (atP (trim ps tl) tl k).1 := fun k => by rw [atP_trim]; exact hq k
  obtain ⟨cs, ec, hc⟩ := v_changed (trim ps tl) tl hqt ht (by omega) n (by omega) (prD p) p (fun S => pair_t S p) hp0 S3
  have hcs : ∀ k, 0 ≤ (atP (trim cs tl) tl k).1 := fun k => by
    rw [atP_trim, hc]
    by_cases q : k = n
    · rw [if_pos q]; exact hp0
    · rw [if_neg q]; exact hqt k
  have hcl : (trim cs tl).length ≤ 1000 := by
    -- beyond the told pairs there is the tail alone
    rcases Nat.lt_or_ge 1000 (trim cs tl).length with z | z
    · exfalso
      obtain ⟨m, e⟩ : ∃ m, (trim cs tl).length = m + 1 := ⟨(trim cs tl).length - 1, by omega⟩
      refine trim_last cs tl e ?_
      rw [atP_trim, hc, if_neg (by omega), atP_far (by omega)]
    · exact z
  obtain ⟨cs2, ec2, hc2⟩ := v_changed (trim cs tl) tl hcs ht hcl n (by omega) (prD (atP (trim ps tl) tl n)) (atP (trim ps tl) tl n) (fun S => pair_t S _) (hqt n) S3
  have back : trim cs2 tl = trim ps tl := trim_eq fun k => by
    rw [hc2, atP_trim cs, hc]
    by_cases q : k = n
    · rw [if_pos q, q, atP_trim]
    · rw [if_neg q, if_neg q, atP_trim]
  have same : (trim cs tl = trim ps tl) ↔ p = atP ps tl n := by
    rw [trim_iff]
    constructor
    · intro z
      have := z n
      rw [hc, if_pos rfl] at this
      exact this
    · intro z k
      rw [hc]
      by_cases q : k = n
      · rw [if_pos q, q]; exact z
      · rw [if_neg q, atP_trim]
  have er := v_raised (trim ps tl) tl (set_trim hq) ht (by omega) n (by omega) (prD p) p (fun S => pair_t S p) hp0 S3
  have hr : ∀ k, atP (trim (List.replicate n p ++ trim ps tl) tl) tl k = if k < n then p else atP ps tl (k - n) := fun k => by
    rw [atP_trim, atP_rep]
    by_cases q : k < n
    · rw [if_pos q, if_pos q]
    · rw [if_neg q, if_neg q, atP_trim]
  have hrl : (trim (List.replicate n p ++ trim ps tl) tl).length ≤ 1000 := by
    have := trim_short (List.replicate n p ++ trim ps tl) tl
    rw [List.length_append, List.length_replicate] at this
    omega
  have em := v_moved (trim (List.replicate n p ++ trim ps tl) tl) tl (set_trim fun k => by
    have := hr k
    rw [atP_trim] at this
    rw [this]
    by_cases q : k < n
    · rw [if_pos q]; exact hp0
    · rw [if_neg q]; exact hq _) ht hrl n S3
  have moved : trim ((trim (List.replicate n p ++ trim ps tl) tl).drop n) tl = trim ps tl := trim_eq fun k => by
    rw [atP_drop, hr, if_neg (by omega), Nat.add_sub_cancel_left]
  have es := v_same_from (trim (List.replicate n p ++ trim ps tl) tl) (trim ps tl) tl tl 9 n (by omega) (fun k hk => by rw [hr, if_neg (by omega), Nat.add_sub_cancel, atP_trim]) S3
  have epos := v_positive (trim ps tl) tl (by omega) S3
  have epl := v_plain (trim ps tl) tl (by omega) S3
  rw [all_trim (f := fun p => decide (1 ≤ p.2))] at epos
  rw [all_trim (f := fun p => decide (p.1 = 1))] at epl
  have est := v_steady p hp0 S3
  have mk2 : callV (makeR "Numbers" r_Numbers___init__) [.val (.lst [prD p, prD p]), .val (prD p)] S3 = .ok (.val (numD (trim [p, p] p) p)) S3 := v_makeP (kd := .l) (rows := [p, p].map prD |>.map .val) (ps := [p, p]) rfl (by decide) (RowsW.plain _ _) (by simp) (pair_t _ _) (fun q hq => by
    simp only [List.mem_cons, List.not_mem_nil, or_false, or_self] at hq
    rw [hq]; exact hp0) hp0
  have steady : trim [] p = trim [p, p] p := trim_eq fun k => by
    unfold atP
    rcases k with _ | _ | k <;> rfl
  have ef := v_falling n (by omega) S3
  have mkf := fall_make n (by omega) S3
  unfold x__law_changes_right
  refine o_asg (x := .val (prD p)) (S1 := S2) (e_cb (ws := [wI (u : Nat), wI ((v : Int) - 3)]) (S1 := S2) (a_cons (S1 := S1) (e_cb (ws := [.ref 0, wI 3]) (S1 := S) rfl e1) (a_cons (us := []) (S1 := S2) (e_bin (x := wI (v : Nat)) (y := wI 3) (S1 := S2) (S2 := S2) (e_cb (ws := [.ref 0, wI 7]) (S1 := S1) rfl e2) rfl rfl) rfl)) rfl) ?_
  refine o_asg (x := wI (n : Nat)) (S1 := S3) (e_cb (ws := [.ref 0, wI 4]) (S1 := S2) rfl e3) ?_
  refine o_asg (x := .val (numD (trim cs tl) tl)) (S1 := S3) (e_me (S2 := S3) (ws := [wI (n : Nat), .val (prD p)]) rfl rfl rfl ec) ?_
  refine o_pass (S1 := S3) (t_orF (t_v (e_bin (x := .val (prD (atP (trim cs tl) tl n))) (y := .val (prD p)) (S1 := S3) (S2 := S3) (e_at (n := n) rfl rfl) rfl ?_)) (t_v (e_bin (x := .val (numD (trim cs2 tl) tl)) (y := .val (numD (trim ps tl) tl)) (S1 := S3) (S2 := S3) (e_me (S2 := S3) (ws := [wI (n : Nat), .val (prD (atP (trim ps tl) tl n))]) rfl rfl (a_cons rfl (a_cons (e_at (n := n) rfl rfl) rfl)) ec2) rfl (ownT _ _ _ back _)))) ?_
  · rw [gNe_of (eq_pr ..), atP_trim, hc, if_pos rfl]; simp
  refine o_pass (S1 := S3) (t_v (e_bin (x := .val (.bl (decide (trim cs tl = trim ps tl)))) (y := .val (.bl (decide (p = atP ps tl n)))) (S1 := S3) (S2 := S3) (e_bin (x := .val (numD (trim cs tl) tl)) (y := .val (numD (trim ps tl) tl)) (S1 := S3) (S2 := S3) rfl rfl ?_) (e_bin (x := .val (prD p)) (y := .val (prD (atP ps tl n))) (S1 := S3) (S2 := S3) rfl (e_cb (ws := [.ref 1, .val (prD tl), wI (n : Nat)]) rfl (v_law_at h3 tl n)) (gEq_of (eq_pr ..))) ?_)) ?_
  · rw [own_eq, if_neg Bool.false_ne_true]; simp
  · rw [gNe_bl]
    have : decide (trim cs tl = trim ps tl) = decide (p = atP ps tl n) := decide_eq_decide.mpr same
    rw [this, decide_eq_true (p := decide (p = atP ps tl n) = decide (p = atP ps tl n)) rfl]; rfl
  refine o_asg (x := .val (numD (trim (List.replicate n p ++ trim ps tl) tl) tl)) (S1 := S3) (e_me (S2 := S3) (ws := [wI (n : Nat), .val (prD p)]) rfl rfl rfl er) ?_
  refine o_pass (S1 := S3) (t_orF (t_not (c := true) (t_v (e_cb (ws := [.val (numD (trim (List.replicate n p ++ trim ps tl) tl) tl), .val (numD (trim ps tl) tl), wI 9, wI (n : Nat)]) (S1 := S3) rfl es))) (t_v (e_bin (x := .val (numD (trim ((trim (List.replicate n p ++ trim ps tl) tl).drop n) tl) tl)) (y := .val (numD (trim ps tl) tl)) (S1 := S3) (S2 := S3) (e_me (S2 := S3) (ws := [wI (n : Nat)]) rfl rfl rfl em) rfl (ownT _ _ _ moved _)))) ?_
  refine o_rng1 (k := n) (fun i ρ S => S = S3 ∧ ∃ a, ρ = [some (.ref 0), some (.val (numD (trim ps tl) tl)), some (.ref 1), some (.val (prD tl)), some (.val (prD p)), some (wI (n : Nat)), some (.val (numD (trim cs tl) tl)), some (.val (numD (trim (List.replicate n p ++ trim ps tl) tl) tl)), a, none, none, none, none, none]) (S1 := S3) rfl (by omega) ⟨rfl, none, rfl⟩ (fun i ρ S hi hI => ?_) (fun ρ S hI => ?_)
  · obtain ⟨rfl, a, rfl⟩ := hI
    refine o_pass (S1 := S) (t_v (e_bin (x := .val (prD (atP (trim (List.replicate n p ++ trim ps tl) tl) tl i))) (y := .val (prD p)) (S1 := S) (S2 := S) (e_at (n := i) rfl rfl) rfl ?_)) (o_next ⟨rfl, _, rfl⟩)
    rw [gNe_of (eq_pr ..), hr, if_pos hi]; simp
  · obtain ⟨rfl, a, rfl⟩ := hI
    have b9 : (decide (1 ≤ tl.2) && !ps.any fun p => decide (p.2 < 1)) = (decide (1 ≤ tl.2) && !ps.any fun p => !decide (1 ≤ p.2)) := by
      have e : (fun p : Int × Int => decide (p.2 < 1)) = fun p => !decide (1 ≤ p.2) := funext fun p => by
        by_cases z : p.2 < 1
        · rw [decide_eq_true z, decide_eq_false (by omega)]; rfl
        · rw [decide_eq_false z, decide_eq_true (by omega)]; rfl
      rw [e]
    have b10 : (decide (tl.1 = 1) && !ps.any fun p => !decide (p.1 = 1)) = (decide (tl.1 = 1) && !ps.any fun p => !decide (p.1 = 1)) := rfl
    refine o_asg (x := .val (.bl (decide (1 ≤ tl.2) && !ps.any fun p => decide (p.2 < 1)))) (S1 := S) (e_and (e_bin (x := wI tl.2) (y := wI 1) (S1 := S) (S2 := S) (e_bin (x := .val (prD tl)) (y := wI 1) (S1 := S) (S2 := S) rfl rfl (ix1 ..)) rfl rfl) fun _ => filt_len (x := .ref 1) (f := fun p => decide (p.2 < 1)) h3 (by omega) rfl (fun _ => rfl) fun p => t_v (e_bin (x := wI p.2) (y := wI 1) (S1 := S) (S2 := S) (e_bin (x := .val (prD p)) (y := wI 1) (S1 := S) (S2 := S) rfl rfl (ix1 ..)) rfl rfl)) ?_
    refine o_asg (x := .val (.bl (decide (tl.1 = 1) && !ps.any fun p => !decide (p.1 = 1)))) (S1 := S) (e_and (e_bin (x := wI tl.1) (y := wI 1) (S1 := S) (S2 := S) (e_bin (x := .val (prD tl)) (y := wI 0) (S1 := S) (S2 := S) rfl rfl (ix0 ..)) rfl (gEq_int ..)) fun _ => filt_len (x := .ref 1) (f := fun p => !decide (p.1 = 1)) h3 (by omega) rfl (fun _ => rfl) fun p => t_v (e_bin (x := wI p.1) (y := wI 1) (S1 := S) (S2 := S) (e_bin (x := .val (prD p)) (y := wI 0) (S1 := S) (S2 := S) rfl rfl (ix0 ..)) rfl (gNe_int ..))) ?_
    refine o_pass (S1 := S) (t_orF (t_v (e_bin (S1 := S) (S2 := S) (e_prop rfl epos) rfl ?_)) (t_v (e_bin (S1 := S) (S2 := S) (e_prop rfl epl) rfl ?_))) ?_
    · refine (gNe_bl ..).trans ?_
      rw [b9]; simp
    · refine (gNe_bl ..).trans ?_
      simp
    refine o_pass (S1 := S) (t_v (e_bin (x := .val (numD (trim [] p) p)) (y := .val (numD (trim [p, p] p) p)) (S1 := S) (S2 := S) (e_cms (ws := [wI p.1, wI p.2]) (S1 := S) (a_cons (e_bin (x := .val (prD p)) (y := wI 0) (S1 := S) (S2 := S) rfl rfl (ix0 ..)) (a_cons (us := []) (e_bin (x := .val (prD p)) (y := wI 1) (S1 := S) (S2 := S) rfl rfl (ix1 ..)) rfl)) est) (e_mk (ws := [.val (.lst [prD p, prD p])]) (us := [.val (prD p)]) rfl rfl ⟨rfl, rfl⟩ mk2) (ownT _ _ _ steady _))) ?_
    refine o_asg (x := .val (numD (trim (fallL n) (fallT n)) (fallT n))) (S1 := S) (e_cms (ws := [wI (n : Nat)]) (S1 := S) rfl ef) ?_
    refine o_ret (x := .val (.bl true)) (S1 := S) (e_bin (x := .val (numD (trim (fallL n) (fallT n)) (fallT n))) (y := .val (numD (trim (fallL n) (fallT n)) (fallT n))) (S1 := S) (S2 := S) rfl (e_mk (ws := [.val (.lst ((fallL n).map prD))]) (us := [.val (prD (fallT n))]) (a_cons (us := []) (fall_row (a := 5) (v := 12) n (by omega) (fun _ => rfl) (fun _ => rfl) rfl) rfl) rfl ⟨rfl, rfl⟩ mkf) (ownF _ _ _ rfl _)) ⟨S, rfl, trivial⟩
end HT

set_option maxRecDepth 100000
set_option linter.all false
set_option Elab.async false
/-! A12: numbers made of lists stay apart from them; unlike tails. -/
namespace HT
open PySem G
/-- the cells that stood before stand as they were -/
def Keep (S S' : Hs) : Prop := ∀ i, i < S.length → S'[i]? = S[i]?
theorem Keep.refl {S : Hs} : Keep S S := fun _ _ => rfl
theorem Keep.ext {S S1 S2 : Hs} (h : Keep S S1) (k : Ext S1 S2) (l : S.length ≤ S1.length) : Keep S S2 := fun i hi => by
  obtain ⟨T, rfl⟩ := k
  rw [List.getElem?_append_left (by omega)]
  exact h i hi
theorem Keep.set {S S1 : Hs} (h : Keep S S1) {j : Nat} (l : S.length ≤ j) (c : Option Cell) : Keep S (S1.set j c) := fun i hi => by
  rw [List.getElem?_set_ne (by omega)]
  exact h i hi
theorem Keep.at_ {S S1 : Hs} (h : Keep S S1) {i : Nat} {c : Option Cell} (e : S[i]? = some c) : S1[i]? = some c := by
  have hi : i < S.length := by
    rcases Nat.lt_or_ge i S.length with z | z
    · exact z
    · rw [List.getElem?_eq_none z] at e; cases e
  rw [h i hi]; exact e
theorem Keep.ps {S S1 : Hs} (h : Keep S S1) {j : Nat} {ps : List (Int × Int)} (k : PsW S (.ref j) ps) : PsW S1 (.ref j) ps := by
  unfold PsW look at k ⊢
  dsimp only at k ⊢
  split at k
  · rename_i ws e
    rw [h.at_ e]
    exact k
  · cases k
theorem Ext.keep {S S1 : Hs} (h : Ext S S1) : Keep S S1 := Keep.refl.ext h (Nat.le_refl _)
theorem Ext.len {S S1 : Hs} (h : Ext S S1) : S.length ≤ S1.length := by
  obtain ⟨T, rfl⟩ := h
  rw [List.length_append]; omega
theorem Ext.ps {S S1 : Hs} (h : Ext S S1) {x : W} {ps : List (Int × Int)} (k : PsW S x ps) : PsW S1 x ps := h.look k
section
variable {P : G.Env → Hs → Prop} {Q : RS → Prop} {ρ ρ1 : G.Env} {S S1 S2 S3 : Hs} {x y z : W} {ws us : List W}
theorem each_inv {v : Nat} {body : Es} (J : G.Env → Hs → Prop) (he : ∀ ρ S, J ρ S → P ρ S) : ∀ ws : List W, (∀ w, w ∈ ws → ∀ ρ S, J ρ S → Out J Q (body (ρ.set v (some w)) S)) → ∀ ρ S, J ρ S → EachL P Q v body ws ρ S := by
  intro ws
  induction ws with
  | nil => intro _ ρ S h; exact he ρ S h
  | cons w ws ih =>
    intro hs ρ S h
    have z := hs w (List.mem_cons_self ..) ρ S h
    unfold EachL
    have ih := ih fun w hw => hs w (List.mem_cons_of_mem _ hw)
    have o := z.o
    refine ⟨?_⟩
    cases e : body (ρ.set v (some w)) S with
    | nx ρ2 S2 => rw [e] at o; exact ih ρ2 S2 o
    | rt w S2 => rw [e] at o; exact o
    | exc c fs ρ2 S2 => rw [e] at o; exact o
    | ct ρ2 S2 => rw [e] at o; exact o
    | bk ρ2 S2 => rw [e] at o; exact o
    | no => rw [e] at o; exact o
theorem o_augS {g : W → W → Hs → G.R W} {o i a : Ev} {b : Es} {j k : Nat} (ho : o ρ S = .ok (.ref j) S) (hi : i ρ S = .ok (wI (k : Nat)) S) (hc : S[j]? = some (some (.lst ws))) (hw : ws[k]? = some x) (ha : a ρ S = .ok y S) (hg : g x y S = .ok z S)
    (q : Out P Q (b ρ (S.set j (some (.lst (ws.set k z)))))) : Out P Q (esSeq (esAugS g o i a) b ρ S) := by
  have hk : k < ws.length := by
    rcases Nat.lt_or_ge k ws.length with z | z
    · exact z
    · rw [List.getElem?_eq_none z] at hw; cases hw
  have e : esAugS g o i a ρ S = .nx ρ (S.set j (some (.lst (ws.set k z)))) := by
    unfold esAugS
    rw [ho]
    dsimp only [G.R.thenS]
    rw [hi]
    dsimp only [G.R.thenS]
    rw [ix_look (cell_look hc) k hw]
    dsimp only [G.R.thenS]
    rw [ha]
    dsimp only [G.R.thenS]
    rw [hg]
    dsimp only [G.R.thenS]
    have q : gSet (.ref j) (wI (k : Nat)) z S = some (S.set j (some (.lst (ws.set k z)))) := by
      unfold gSet cellL
      dsimp only
      rw [hc]
      dsimp only
      have q2 : L2.ixN ws.length (k : Int) = some k := by
        unfold L2.ixN
        rw [if_pos (by omega), if_pos (by omega), Int.toNat_natCast]
      rw [q2]
      rfl
    rw [q]
  rw [seq_nx e]
  exact q
end
def rowC (p : Int × Int) : Option Cell := some (.lst [wI p.1, wI p.2])
def refsL (L n : Nat) : List W := (List.range n).map fun i => W.ref (L + i)
theorem rows_loop {src : Src} {x : W} (hsrc : ∀ i S, src.nxt i S = nxSeq x i S) {S : Hs} {ps : List (Int × Int)} {v : Nat} {ρ0 : G.Env} (h : PsW S x ps) (hl : ps.length ≤ 1000) (hv : ∀ w : W, (ρ0.set v (some w))[v]? = some (some w)) :
    ∀ j i, i + j = ps.length → loopC src (.one (egName v)) etYes (evLst true (eaCons (evBin gIx (evVar v) (evC (.int 0))) (eaCons (evBin gIx (evVar v) (evC (.int 1))) eaNil))) j i ρ0 (refsL S.length i) (S ++ (ps.take i).map rowC) = .ok (refsL S.length ps.length) (S ++ ps.map rowC) := by
  have var : ∀ {ρ : G.Env} {i : Nat} {w : W} {S : Hs}, ρ[i]? = some (some w) → evVar i ρ S = .ok w S := fun h => by
    unfold evVar
    rw [h]
  intro j
  induction j with
  | zero =>
    intro i e
    have e2 : i = ps.length := by omega
    subst e2
    have q : nxSeq x ps.length (S ++ (ps.take ps.length).map rowC) = .stop := by
      rw [nx_seq ((ext_app S _).look h), List.getElem?_eq_none (by simp)]
    unfold loopC
    rw [hsrc, q, List.take_length]
  | succ j ih =>
    intro i e
    have hi : i < ps.length := by omega
    have q : nxSeq x i (S ++ (ps.take i).map rowC) = .item false [.val (prD ps[i])] := by
      rw [nx_seq ((ext_app S _).look h), ps_at hi]
    have hlen : (S ++ (ps.take i).map rowC).length = S.length + i := by
      rw [List.length_append, List.length_map, List.length_take, Nat.min_eq_left (by omega)]
    have ev : evLst true (eaCons (evBin gIx (evVar v) (evC (.int 0))) (eaCons (evBin gIx (evVar v) (evC (.int 1))) eaNil)) (ρ0.set v (some (.val (prD ps[i])))) (S ++ (ps.take i).map rowC) = .ok (.ref (S.length + i)) (S ++ (ps.take (i + 1)).map rowC) := by
      refine e_cb (ws := [wI ps[i].1, wI ps[i].2]) (S1 := S ++ (ps.take i).map rowC) (a_cons (S1 := S ++ (ps.take i).map rowC) (e_bin (x := .val (prD ps[i])) (y := wI 0) (S1 := S ++ (ps.take i).map rowC) (S2 := S ++ (ps.take i).map rowC) (var (hv _)) rfl (ix0 ..)) (a_cons (us := []) (S1 := S ++ (ps.take i).map rowC) (e_bin (x := .val (prD ps[i])) (y := wI 1) (S1 := S ++ (ps.take i).map rowC) (S2 := S ++ (ps.take i).map rowC) (var (hv _)) rfl (ix1 ..)) rfl)) ?_
      rw [mk_own _ _ (by simp), hlen, List.take_add_one, List.getElem?_eq_getElem hi, List.map_append, List.append_assoc]
      rfl
    unfold loopC
    rw [hsrc, q]
    dsimp only [Tk.run, egName, etYes]
    rw [ev]
    dsimp only
    have hr : (refsL S.length i).length = i := by unfold refsL; simp
    rw [if_pos (by omega)]
    have e3 : refsL S.length i ++ [W.ref (S.length + i)] = refsL S.length (i + 1) := by
      unfold refsL
      rw [List.range_succ, List.map_append]; rfl
    rw [e3]
    exact ih (i + 1) (by omega)
theorem rows_lc {x : W} {S : Hs} {ps : List (Int × Int)} {v a : Nat} {ρ : G.Env} (h : PsW S x ps) (hl : ps.length ≤ 1000) (hx : ρ[a]? = some (some x)) (hv : ∀ w : W, ((wipeE ρ [v]).set v (some w))[v]? = some (some w)) :
    evLc true [v] (eiSeq (evVar a)) (.one (egName v)) etYes (evLst true (eaCons (evBin gIx (evVar v) (evC (.int 0))) (eaCons (evBin gIx (evVar v) (evC (.int 1))) eaNil))) ρ S = .ok (.ref (S.length + ps.length)) (S ++ ps.map rowC ++ [some (.lst (refsL S.length ps.length))]) := by
  have var : ∀ {ρ : G.Env} {i : Nat} {w : W} {S : Hs}, ρ[i]? = some (some w) → evVar i ρ S = .ok w S := fun h => by
    unfold evVar
    rw [h]
  unfold evLc
  rw [ei_seq (x := x) (S1 := S) (var hx) h]
  dsimp only [G.R.bind]
  have e : ((ps.map prD).map W.val).length = ps.length := by simp
  rw [e]
  have z := rows_loop (src := ⟨ps.length, nxSeq x⟩) (v := v) (ρ0 := wipeE ρ [v]) (fun _ _ => rfl) h hl hv ps.length 0 (by omega)
  have z2 : refsL S.length 0 = [] := rfl
  rw [z2, List.take_zero, List.map_nil, List.append_nil] at z
  rw [z]
  dsimp only [G.R.bind]
  rw [mk_own _ _ (by unfold refsL; simp; omega), List.length_append, List.length_map]
/-- what is known of the lists that the law keeps for itself -/
structure Kp (S S' : Hs) (n : Nat) : Prop where
  keep : Keep S S'
  lists : ∃ ws, S'[S.length + n]? = some (some (.lst ws)) ∧ ∀ i, i < n → ws[i]? = some (.ref (S.length + i))
  room : ∃ ws, S'[S.length + n]? = some (some (.lst ws)) ∧ ws.length ≤ 2000
  rows : ∀ i, i < n → ∃ a b, S'[S.length + i]? = some (some (.lst [wI a, wI b]))
  end_ : ∃ a b, S'[S.length + n + 1]? = some (some (.lst [wI a, wI b]))
theorem popT_run {tl : Int × Int} {l : List (Int × Int)} {S : Hs} {ρ : G.Env} (hl : l.length ≤ 1000) {d t : Nat} (hd : ρ[d]? = some (some (.val (.lst (l.map prD))))) (ht : ρ[t]? = some (some (.val (prD tl)))) :
    etAnd (etV (evBin (gCmp (fun i j => decide (j < i))) (evCB gLen (eaCons (evVar d) eaNil)) (evC (.int 0)))) (etV (evBin (gEq) (evBin gIx (evVar d) (evBin (gMinus) (evCB gLen (eaCons (evVar d) eaNil)) (evC (.int 1)))) (evVar t))) ρ S = .ok (decide (l.getLast? = some tl)) S ∧
    (l.getLast? = some tl → evSl false (evVar d) eoNone (eoSome (evBin (gMinus) (evCB gLen (eaCons (evVar d) eaNil)) (evC (.int 1)))) ρ S = .ok (.val (.lst (l.dropLast.map prD))) S) := by
  have var : ∀ {ρ : G.Env} {i : Nat} {w : W} {S : Hs}, ρ[i]? = some (some w) → evVar i ρ S = .ok w S := fun h => by
    unfold evVar
    rw [h]
  have hlook : look (.val (.lst (l.map prD))) S = some (.l, (l.map prD).map .val) := rfl
  have len : evCB gLen (eaCons (evVar d) eaNil) ρ S = .ok (wI (l.length : Nat)) S := e_cb (ws := [.val (.lst (l.map prD))]) (S1 := S) (a_cons (us := []) (var hd) rfl) (by rw [len_look hlook]; simp)
  have minus : evBin (gMinus) (evCB gLen (eaCons (evVar d) eaNil)) (evC (.int 1)) ρ S = .ok (wI ((l.length : Int) - 1)) S := e_bin (x := wI (l.length : Nat)) (y := wI 1) (S1 := S) (S2 := S) len rfl rfl
  have hcase : l = [] ∨ ∃ l' p, l = l' ++ [p] := by
    rcases List.eq_nil_or_concat l with z | ⟨a, b, z⟩
    · exact .inl z
    · exact .inr ⟨a, b, by rw [z, List.concat_eq_append]⟩
  rcases hcase with rfl | ⟨l', p, rfl⟩
  · refine ⟨t_andF (t_v (e_bin (x := wI 0) (y := wI 0) (S1 := S) (S2 := S) len rfl rfl)), fun h => by simp at h⟩
  · have hlast : (l' ++ [p]).getLast? = some p := by simp
    have e0 : (((l' ++ [p]).length : Nat) : Int) - 1 = ((l'.length : Nat) : Int) := by rw [List.length_append, List.length_singleton]; omega
    rw [e0] at minus
    refine ⟨?_, fun h => ?_⟩
    · rw [hlast]
      have e1 : decide (some p = some tl) = decide (p = tl) := by
        by_cases z : p = tl
        · rw [z]; simp
        · rw [decide_eq_false z, decide_eq_false (fun e => z (Option.some.inj e))]
      rw [e1]
      refine t_andT (t_v ?_) (t_v (e_bin (x := .val (prD p)) (y := .val (prD tl)) (S1 := S) (S2 := S) (e_bin (x := .val (.lst ((l' ++ [p]).map prD))) (y := wI (l'.length : Nat)) (S1 := S) (S2 := S) (var hd) minus (ix_look hlook l'.length ?_)) (var ht) (gEq_of (eq_pr ..))))
      · refine (e_bin (x := wI ((l' ++ [p]).length : Nat)) (y := wI 0) (S1 := S) (S2 := S) len rfl rfl).trans ?_
        have : decide ((0 : Int) < (((l' ++ [p]).length : Nat) : Int)) = true := by rw [decide_eq_true]; rw [List.length_append, List.length_singleton]; omega
        rw [cmp_int, this]
      · rw [List.map_map, List.getElem?_map, List.getElem?_append_right (Nat.le_refl _), Nat.sub_self]; rfl
    · unfold evSl
      rw [var hd]
      dsimp only [G.R.bind]
      show (eoSome _ ρ S).bind _ = _
      unfold eoSome
      rw [minus]
      show gSl false (.val (.lst ((l' ++ [p]).map prD))) none (some ((l'.length : Nat) : Int)) S = _
      unfold gSl
      dsimp only
      rw [hlook]
      dsimp only
      rw [cut_take _ _ (by simp), List.dropLast_concat, List.map_append, List.map_append, List.take_left' (by simp)]
      exact mk_plain (by simp at hl ⊢; omega)
end HT

set_option maxRecDepth 100000
set_option linter.all false
set_option Elab.async false
/-! A13: numbers made of lists stay apart from them. -/
namespace HT
open PySem G
theorem psW_lst (S : Hs) (ps : List (Int × Int)) : PsW S (.val (.lst (ps.map prD))) ps := by
  unfold PsW
  rfl
theorem add5 (i : Int) (S : Hs) : gAddI (wI i) (wI 5) S = .ok (wI (i + 5)) S := rfl
theorem v_kept_apart {S : Hs} {ps : List (Int × Int)} {tl : Int × Int} (h : PsW S (.ref 1) ps) (hq : ∀ k, 0 ≤ (atP ps tl k).1) (ht : 0 ≤ tl.1) (hl : ps.length ≤ 900) :
    ∃ S', callV r__law_kept_apart [.ref 1, .val (prD tl), .val (numD (trim ps tl) tl)] S = .ok (.val (.bl true)) S' ∧ Keep S S' := by
  refine call_ref rfl rfl ?_
  have hqm : ∀ p, p ∈ ps → 0 ≤ p.1 := fun p hp => by
    obtain ⟨i, hi, e⟩ := List.getElem_of_mem hp
    have := hq i
    unfold atP at this
    rw [List.getElem?_eq_getElem hi, e] at this
    exact this
  have hlt := trim_short ps tl
  have hqt : ∀ k, 0 ≤ (atP (trim ps tl) tl k).1 := fun k => by rw [atP_trim]; exact hq k
  let n := ps.length
  have hn : n = ps.length := rfl
  let S1 : Hs := S ++ ps.map rowC ++ [some (.lst (refsL S.length ps.length))]
  have hS1 : S1 = S ++ ps.map rowC ++ [some (.lst (refsL S.length ps.length))] := rfl
  have len1 : S1.length = S.length + n + 1 := by rw [hS1]; simp; omega
  have x1 : Ext S S1 := ⟨ps.map rowC ++ [some (.lst (refsL S.length ps.length))], by rw [hS1, List.append_assoc]⟩
  let S2 : Hs := S1 ++ [some (.lst [wI tl.1, wI tl.2])]
  have hS2 : S2 = S1 ++ [some (.lst [wI tl.1, wI tl.2])] := rfl
  have x12 : Ext S1 S2 := ⟨_, rfl⟩
  have x2 : Ext S S2 := x1.trans x12
  have g_lists : S1[S.length + n]? = some (some (.lst (refsL S.length ps.length))) := by
    rw [hS1, List.getElem?_append_right (by simp; omega)]
    simp [hn]
  have g_row : ∀ i p, ps[i]? = some p → S1[S.length + i]? = some (rowC p) := fun i p e => by
    have hi : i < ps.length := by
      rcases Nat.lt_or_ge i ps.length with z | z
      · exact z
      · rw [List.getElem?_eq_none z] at e; cases e
    rw [hS1, List.getElem?_append_left (by simp; omega), List.getElem?_append_right (by omega), Nat.add_sub_cancel_left, List.getElem?_map, e]
    rfl
  have g_end : S2[S.length + n + 1]? = some (some (.lst [wI tl.1, wI tl.2])) := by
    rw [hS2, List.getElem?_append_right (by omega), len1, Nat.sub_self]
    rfl
  obtain ⟨S3, mk, x23⟩ := v_make (S := S2) (px := .ref (S.length + n)) (tx := .ref (S.length + n + 1)) (kd := .l) (rows := refsL S.length ps.length) (ps := ps) (tl := tl) (cell_look (x12.at_ g_lists)) (by decide) ⟨by unfold refsL; simp, fun i w p e f => by
      have hi : i < ps.length := by
        rcases Nat.lt_or_ge i ps.length with z | z
        · exact z
        · rw [List.getElem?_eq_none z] at f; cases f
      have e2 : w = .ref (S.length + i) := by
        unfold refsL at e
        rw [List.getElem?_map, List.getElem?_range hi] at e
        exact (Option.some.inj e).symm
      subst e2
      exact ⟨.l, cell_look (x12.at_ (g_row i p f))⟩⟩ (by omega) ⟨.l, cell_look g_end⟩ hqm ht
  have x3 : Ext S S3 := x2.trans x23
  have k3 : Kp S S3 n := ⟨x3.keep, ⟨_, x23.at_ (x12.at_ g_lists), fun i hi => by unfold refsL; rw [List.getElem?_map, List.getElem?_range hi]; rfl⟩, ⟨_, x23.at_ (x12.at_ g_lists), by unfold refsL; simp; omega⟩, fun i hi => ⟨_, _, x23.at_ (x12.at_ (g_row i _ (List.getElem?_eq_getElem hi)))⟩, ⟨_, _, x23.at_ g_end⟩⟩
  have len3 : S.length + n + 2 ≤ S3.length := by
    have := x23.len
    rw [hS2, List.length_append, len1, List.length_singleton] at this
    omega
  unfold x__law_kept_apart
  refine o_asg (x := .ref (S.length + n)) (S1 := S1) (rows_lc h (by omega) rfl (fun _ => rfl)) ?_
  refine o_asg (x := .ref (S.length + n + 1)) (S1 := S2) (e_cb (ws := [wI tl.1, wI tl.2]) (S1 := S1) (a_cons (S1 := S1) (e_bin (x := .val (prD tl)) (y := wI 0) (S1 := S1) (S2 := S1) rfl rfl (ix0 ..)) (a_cons (us := []) (S1 := S1) (e_bin (x := .val (prD tl)) (y := wI 1) (S1 := S1) (S2 := S1) rfl rfl (ix1 ..)) rfl)) (by rw [mk_own _ _ (by simp), len1])) ?_
  refine o_asg (x := .val (numD (trim ps tl) tl)) (S1 := S3) (e_mk (ws := [.ref (S.length + n)]) (us := [.ref (S.length + n + 1)]) (S1 := S2) (S2 := S2) rfl rfl ⟨rfl, rfl⟩ mk) ?_
  refine o_rng1 (k := n) (fun i ρ S' => Kp S S' n ∧ ∃ a, ρ = [some (.ref 1), some (.val (prD tl)), some (.val (numD (trim ps tl) tl)), some (.ref (S.length + n)), some (.ref (S.length + n + 1)), some (.val (numD (trim ps tl) tl)), a, none, none, none, none, none]) (S1 := S3) (a_cons (us := []) (e_cb (ws := [.ref 1]) (S1 := S3) rfl (by rw [len_look (x3.ps h)]; simp; rfl)) rfl) (by omega) ⟨k3, none, rfl⟩ (fun i ρ S' hi hI => ?_) (fun ρ S' hI => ?_)
  · obtain ⟨hk, a, rfl⟩ := hI
    obtain ⟨ws, w1, w2⟩ := hk.lists
    obtain ⟨b, c, r1⟩ := hk.rows i hi
    refine o_augS (j := S.length + i) (k := 1) (ws := [wI b, wI c]) (x := wI c) (y := wI 5) (z := wI (c + 5)) ?_ rfl r1 rfl rfl (add5 ..) (o_next ⟨?_, _, rfl⟩)
    · exact e_bin (x := .ref (S.length + n)) (y := wI (i : Nat)) (S1 := S') (S2 := S') rfl rfl (ix_look (cell_look w1) i (w2 i hi))
    · refine ⟨hk.keep.set (by omega) _, ⟨ws, ?_, w2⟩, ?_, fun j hj => ?_, ?_⟩
      · rw [List.getElem?_set_ne (by omega)]; exact w1
      · obtain ⟨ws2, q1, q2⟩ := hk.room
        exact ⟨ws2, by rw [List.getElem?_set_ne (by omega)]; exact q1, q2⟩
      · by_cases z : j = i
        · subst z
          refine ⟨b, c + 5, ?_⟩
          rw [List.getElem?_set_self]
          · rfl
          · rcases Nat.lt_or_ge (S.length + j) S'.length with z | z
            · exact z
            · rw [List.getElem?_eq_none z] at r1; cases r1
        · rw [List.getElem?_set_ne (by omega)]; exact hk.rows j hj
      · rw [List.getElem?_set_ne (by omega)]; exact hk.end_
  · obtain ⟨hk, a, rfl⟩ := hI
    obtain ⟨ws, w1, w2⟩ := hk.room
    refine o_drop (x := .val .non) (S1 := S'.set (S.length + n) (some (.lst (ws ++ [.val (.lst [.int 3, .int 9])])))) (e_bm (x := .ref (S.length + n)) (ws := [.val (.lst [.int 3, .int 9])]) (S1 := S') (S2 := S') rfl ?_ rfl (append_cell w1 (by omega))) ?_
    · unfold isL
      rw [cell_look w1]
    obtain ⟨b, c, r1⟩ := hk.end_
    have r2 : (S'.set (S.length + n) (some (.lst (ws ++ [.val (.lst [.int 3, .int 9])]))))[S.length + n + 1]? = some (some (.lst [wI b, wI c])) := by
      rw [List.getElem?_set_ne (by omega)]; exact r1
    refine o_augS (j := S.length + n + 1) (k := 0) (ws := [wI b, wI c]) (x := wI b) (y := wI 1) (z := wI (b + 1)) rfl rfl r2 rfl rfl (addI_int ..) ?_
    generalize hS4 : (S'.set (S.length + n) (some (.lst (ws ++ [.val (.lst [.int 3, .int 9])])))).set (S.length + n + 1) (some (.lst ([wI b, wI c].set 0 (wI (b + 1))))) = S4
    have k4 : Keep S S4 := by rw [← hS4]; exact (hk.keep.set (by omega) _).set (by omega) _
    have h4 : PsW S4 (.ref 1) ps := k4.ps h
    have lenE : evCB gLen (eaCons (evVar 0) eaNil) = evCB gLen (eaCons (evVar 0) eaNil) := rfl
    refine o_asg (x := .val (.lst (ps.map prD))) (S1 := S4) (e_cb (ws := [.ref 1]) (S1 := S4) rfl ?_) ?_
    · unfold gList
      dsimp only
      rw [show look (.ref 1) S4 = some (.l, (ps.map prD).map .val) from h4]
      exact mk_plain (by simp; omega)
    refine o_rng1 (k := n) (fun i ρ S => S = S4 ∧ (popK tl ps i).length ≤ 900 ∧ ∃ a, ρ = [some (.ref 1), some (.val (prD tl)), some (.val (numD (trim ps tl) tl)), some (.ref (_)), some (.ref _), some (.val (numD (trim ps tl) tl)), a, some (.val (.lst ((popK tl ps i).map prD))), none, none, none, none]) (S1 := S4) (a_cons (us := []) (e_cb (ws := [.ref 1]) (S1 := S4) rfl (by rw [len_look h4]; simp; rfl)) rfl) (by omega) ⟨rfl, hl, _, rfl⟩ (fun i ρ S5 hi hI => ?_) (fun ρ S5 hI => ?_)
    · obtain ⟨rfl, hpl, a, rfl⟩ := hI
      obtain ⟨t1, t2⟩ := popT_run (S := S5) (ρ := [some (.ref 1), some (.val (prD tl)), some (.val (numD (trim ps tl) tl)), some (.ref (S.length + n)), some (.ref (S.length + n + 1)), some (.val (numD (trim ps tl) tl)), some (wI (i : Nat)), some (.val (.lst ((popK tl ps i).map prD))), none, none, none, none]) (tl := tl) (l := popK tl ps i) (d := 7) (t := 1) (by omega) rfl rfl
      refine o_if t1 (fun c => ?_) (fun c => ?_)
      · have c := of_decide_eq_true c
        refine o_asg (t2 c) (o_next (o_next ⟨rfl, ?_, some (wI (i : Nat)), ?_⟩))
        · rw [popK]; unfold popT; rw [if_pos c]; simp; omega
        · rw [popK]; unfold popT; rw [if_pos c]; rfl
      · have c := of_decide_eq_false c
        refine o_next (o_next ⟨rfl, ?_, some (wI (i : Nat)), ?_⟩)
        · rw [popK]; unfold popT; rw [if_neg c]; exact hpl
        · rw [popK]; unfold popT; rw [if_neg c]; rfl
    · obtain ⟨rfl, _, a, rfl⟩ := hI
      rw [show popK tl ps n = trim ps tl from popK_trim ps tl]
      refine o_pass (S1 := S5) (t_orF (t_not (c := true) (t_v (e_bin (x := .val (numD (trim ps tl) tl)) (y := .val (numD (trim ps tl) tl)) (S1 := S5) (S2 := S5) rfl rfl (ownF _ _ _ rfl _)))) (t_orF (t_v (e_bin (x := .val (prD tl)) (y := .val (prD tl)) (S1 := S5) (S2 := S5) (e_tail rfl) rfl ?_)) (t_not (c := true) (t_v (e_un (x := .val (prD tl)) (S1 := S5) (e_tail rfl) rfl))))) ?_
      · rw [gNe_of (eq_pr ..)]; simp
      refine o_lit (dd := .lst [numD (trim ps tl) tl, numD (trim ps tl) tl]) (kd := .l) (ws := [.val (numD (trim ps tl) tl), .val (numD (trim ps tl) tl)]) (S1 := S5) rfl (fun _ => rfl) ?_
      refine each_inv (fun ρ S => S = S5 ∧ ∃ a b c, ρ = [some (.ref 1), some (.val (prD tl)), some (.val (numD (trim ps tl) tl)), some (.ref (_)), some (.ref _), some (.val (numD (trim ps tl) tl)), a, some (.val (.lst ((trim ps tl).map prD))), b, none, none, c]) (fun ρ S6 hI => ?_) _ (fun w hw ρ S6 hI => ?_) _ S5 ⟨rfl, _, _, _, rfl⟩
      · obtain ⟨rfl, a, b, c, rfl⟩ := hI
        obtain ⟨cs, ec, hc⟩ := v_changed (trim ps tl) tl hqt ht (by omega) 2 (by omega) (.lst [.int 4, .int 7]) (4, 7) (fun S => pair_l S (4, 7)) (by decide) S6
        have er := v_raised (trim ps tl) tl (set_trim hq) ht (by omega) 1 (by omega) (.lst [.int 5, .int 8]) (5, 8) (fun S => pair_l S (5, 8)) (by decide) S6
        refine o_asg (x := .val (numD (trim cs tl) tl)) (S1 := S6) (e_me (S2 := S6) (ws := [wI (2 : Nat), .val (.lst [.int 4, .int 7])]) rfl rfl rfl ec) ?_
        refine o_asg (x := .val (numD (trim (List.replicate 1 (5, 8) ++ trim ps tl) tl) tl)) (S1 := S6) (e_me (S2 := S6) (ws := [wI (1 : Nat), .val (.lst [.int 5, .int 8])]) rfl rfl rfl er) ?_
        have a1 : atP (trim cs tl) tl 2 = (4, 7) := by rw [atP_trim, hc]; rfl
        have a2 : atP (trim (List.replicate 1 (5, 8) ++ trim ps tl) tl) tl 0 = (5, 8) := by rw [atP_trim, atP_rep]; rfl
        have a3 : atP (trim ps tl) tl n = tl := by rw [atP_trim]; exact atP_far (by omega)
        have g1 : ∀ {ρ : G.Env} {o i : Ev}, o ρ S6 = .ok (.val (numD (trim cs tl) tl)) S6 → i ρ S6 = .ok (wI (2 : Nat)) S6 → evSubO "Numbers" r_Numbers___getitem__ o i ρ S6 = .ok (.val (prD (4, 7))) S6 := fun h1 h2 => by
          rw [← a1]; exact e_at (n := 2) h1 h2
        have g2 : ∀ {ρ : G.Env} {o i : Ev}, o ρ S6 = .ok (.val (numD (trim (List.replicate 1 (5, 8) ++ trim ps tl) tl) tl)) S6 → i ρ S6 = .ok (wI (0 : Nat)) S6 → evSubO "Numbers" r_Numbers___getitem__ o i ρ S6 = .ok (.val (prD (5, 8))) S6 := fun h1 h2 => by
          rw [← a2]; exact e_at (n := 0) h1 h2
        have g3 : ∀ {ρ : G.Env} {o i : Ev}, o ρ S6 = .ok (.val (numD (trim ps tl) tl)) S6 → i ρ S6 = .ok (wI (n : Nat)) S6 → evSubO "Numbers" r_Numbers___getitem__ o i ρ S6 = .ok (.val (prD tl)) S6 := fun h1 h2 => by
          have z := e_at (n := n) h1 h2
          rw [a3] at z; exact z
        have hlen : gLen [.ref 1] S6 = .ok (wI (n : Nat)) S6 := by rw [len_look h4]; simp; rfl
        refine o_lit (dd := .lst [prD (4, 7), prD (5, 8), prD tl]) (kd := .l) (ws := [.val (prD (4, 7)), .val (prD (5, 8)), .val (prD tl)]) (S1 := S6) (e_cb (ws := [.val (prD (4, 7)), .val (prD (5, 8)), .val (prD tl)]) (S1 := S6) (a_cons (g1 rfl rfl) (a_cons (g2 rfl rfl) (a_cons (us := []) (g3 rfl (e_cb (ws := [.ref 1]) (S1 := S6) rfl hlen)) rfl))) rfl) (fun _ => rfl) ?_
        refine each_inv (fun ρ S => S = S6 ∧ ∃ b c d e, ρ = [some (.ref 1), some (.val (prD tl)), b, some (.ref (_)), some (.ref _), some (.val (numD (trim ps tl) tl)), c, some (.val (.lst ((trim ps tl).map prD))), d, some (.val (numD (trim cs tl) tl)), some (.val (numD (trim (List.replicate 1 (5, 8) ++ trim ps tl) tl) tl)), e]) (fun ρ S7 hI => ?_) _ (fun w hw ρ S7 hI => ?_) _ S6 ⟨rfl, _, _, _, _, rfl⟩
        · obtain ⟨rfl, b, c, d, e, rfl⟩ := hI
          refine o_ret (x := .val (.bl true)) (S1 := S7) (e_and (c := true) (d := true) (e_bin (x := .val (prD (4, 7))) (y := .val (prD (4, 7))) (S1 := S7) (S2 := S7) (g1 rfl rfl) rfl (gEq_of (eq_pr ..))) fun _ => e_and (c := true) (d := true) (e_bin (x := .val (prD (5, 8))) (y := .val (prD (5, 8))) (S1 := S7) (S2 := S7) (g2 rfl rfl) rfl (gEq_of (eq_pr ..))) fun _ => e_bin (x := .val (prD tl)) (y := .val (prD tl)) (S1 := S7) (S2 := S7) (g3 rfl (e_cb (ws := [.ref 1]) (S1 := S7) rfl hlen)) rfl ?_) ⟨S7, rfl, k4⟩
          rw [gEq_of (eq_pr ..)]; simp
        · obtain ⟨rfl, b, c, d, e, rfl⟩ := hI
          have hw2 : ∃ p : Int × Int, w = .val (prD p) := by
            simp only [List.mem_cons, List.not_mem_nil, or_false] at hw
            rcases hw with z | z | z
            · exact ⟨_, z⟩
            · exact ⟨_, z⟩
            · exact ⟨_, z⟩
          obtain ⟨p, rfl⟩ := hw2
          exact o_pass (S1 := S7) (t_orF (t_not (c := true) (t_v (e_un (x := .val (prD p)) (S1 := S7) rfl rfl))) (t_v (e_bin (x := wI 2) (y := wI 2) (S1 := S7) (S2 := S7) (e_cb (ws := [.val (prD p)]) (S1 := S7) rfl rfl) rfl rfl))) (o_next ⟨rfl, _, _, _, _, rfl⟩)
      · obtain ⟨rfl, a, b, c, rfl⟩ := hI
        have hw2 : w = .val (numD (trim ps tl) tl) := by
          simp only [List.mem_cons, List.not_mem_nil, or_false, or_self] at hw
          exact hw
        subst hw2
        refine o_pass (S1 := S6) (t_orF (t_not (c := true) (t_v (e_un (x := .val (.tup ((trim ps tl).map prD))) (S1 := S6) (e_pairs rfl) rfl))) (t_v (e_bin (x := .val (.lst ((trim ps tl).map prD))) (y := .val (.lst ((trim ps tl).map prD))) (S1 := S6) (S2 := S6) (e_cb (ws := [.val (.tup ((trim ps tl).map prD))]) (S1 := S6) (a_cons (us := []) (e_pairs rfl) rfl) ?_) rfl ?_))) ?_
        · show mkLst false (((trim ps tl).map prD).map .val) S6 = _
          exact mk_plain (by simp; omega)
        · rw [gNe_of (eq_lists (psW_lst S6 (trim ps tl)) (psW_lst S6 (trim ps tl)))]; simp
        refine o_pass (S1 := S6) (t_v (e_bin (x := wI 0) (y := wI 0) (S1 := S6) (S2 := S6) (e_cb (ws := [.val (.lst [])]) (S1 := S6) (a_cons (us := []) ?_ rfl) rfl) rfl rfl)) (o_next ⟨rfl, _, _, _, rfl⟩)
        refine (e_lcs (x := .val (.tup ((trim ps tl).map prD))) (kd := .t) (ws := ((trim ps tl).map prD).map .val) (S1 := S6) (e_pairs rfl) rfl (by simp; omega) (p := fun _ => false) (g := fun w => w) (fun w hw => ?_) (fun w hw c => by cases c)).trans ?_
        · obtain ⟨d, hd, rfl⟩ := List.mem_map.mp hw
          obtain ⟨p, _, rfl⟩ := List.mem_map.mp hd
          exact t_not (c := true) (t_v (e_un (x := .val (prD p)) (S1 := S6) rfl rfl))
        · rw [List.filter_eq_nil_iff.mpr (by simp)]; rfl
end HT

set_option maxRecDepth 100000
set_option linter.all false
set_option Elab.async false
/-! A14: unlike tails; refusals; doors. -/
namespace HT
open PySem G
section
variable {P : G.Env → Hs → Prop} {Q : RS → Prop} {ρ ρ1 : G.Env} {S S1 S2 S3 : Hs} {x y z : W} {ws us : List W}
theorem o_seqNx {a b : Es} (h : a ρ S = .nx ρ1 S1) (k : Out P Q (b ρ1 S1)) : Out P Q (esSeq a b ρ S) := by
  rw [seq_nx h]; exact k
theorem try_hit {b : Es} {h : Hdl} {hs : List Hdl} {c : Str} {fs : List (Str × G.D)} {ρ2 : G.Env} (hb : b ρ S = .exc c fs ρ1 S1) (hl : h.tbl.lookup c = some true) (hsl : h.slot < ρ1.length) (hr : h.run c fs (ρ1.set h.slot none) S1 = .nx ρ2 S2) :
    esTry b (h :: hs) ρ S = .nx (ρ2.set h.slot none) S2 := by
  unfold esTry
  rw [hb]
  dsimp only
  unfold esHs
  rw [hl]
  dsimp only
  rw [if_pos hsl, hr]
  rfl
end
theorem own_other (ps : List (Int × Int)) (tl : Int × Int) (d : G.D) (S : Hs) (h : ∃ n, tagD d = some (.b n) ∧ T_any_Numbers.b.lookup n = some true ∧ T_Numbers.b.lookup n = some false) : gOwnEq false "Numbers" T_any_Numbers r_Numbers___eq__ (.val (numD ps tl)) (.val d) S = .ok (.val (.bl false)) S := by
  obtain ⟨n, h1, h2, h3⟩ := h
  have e : callV r_Numbers___eq__ [.val (numD ps tl), .val d] S = .ok (.val (.bl false)) S := by
    refine call_of rfl rfl ?_
    unfold x_Numbers___eq__
    refine o_ret (x := .val (.bl false)) (S1 := []) (e_and (c := false) (d := false) ?_ (fun c => by cases c)) ⟨[], rfl⟩
    unfold evIs
    refine e_un (x := .val d) (S1 := []) rfl ?_
    show (match tagD d with
      | some t => (match T_Numbers.ans t with
        | some b => G.R.ok (W.val (.bl b)) []
        | none => .no)
      | none => .no) = _
    rw [h1]
    show (match T_Numbers.b.lookup n with
        | some b => G.R.ok (W.val (.bl b)) []
        | none => .no) = _
    rw [h3]
  have e2 : callN r_Numbers___eq__ [.val (numD ps tl), .val d] S = .ok (.val (.bl false)) S := by
    unfold callN
    rw [e]
  show (match tagD d with
    | some t => if T_any_Numbers.ans t = some true then (match (callN r_Numbers___eq__ [.val (numD ps tl), .val d] S : G.R W) with
      | .ok (W.val (.bl b)) S' => G.R.ok (W.val (.bl (if false = true then !b else b))) S'
      | _ => G.R.no) else .no
    | none => .no) = _
  rw [h1]
  dsimp only
  rw [if_pos (show T_any_Numbers.ans (.b n) = some true from h2), e2]
  rfl
theorem v_unlike_tails {S : Hs} {ps : List (Int × Int)} {tl : Int × Int} (h : PsW S (.ref 1) ps) (hq : ∀ k, 0 ≤ (atP ps tl k).1) (ht : 0 ≤ tl.1) (hl : ps.length ≤ 900) :
    ∃ S', callV r__law_unlike_tails [.ref 1, .val (prD tl)] S = .ok (.val (.bl true)) S' ∧ Ext S S' := by
  refine call_ref rfl rfl ?_
  have hqm : ∀ p, p ∈ ps → 0 ≤ p.1 := fun p hp => by
    obtain ⟨i, hi, e⟩ := List.getElem_of_mem hp
    have := hq i
    unfold atP at this
    rw [List.getElem?_eq_getElem hi, e] at this
    exact this
  have mk : ∀ (t : Int × Int) (S1 : Hs), 0 ≤ t.1 → Ext S S1 → ∃ S2, callV (makeR "Numbers" r_Numbers___init__) [.ref 1, .val (prD t)] S1 = .ok (.val (numD (trim ps t) t)) S2 ∧ Ext S S2 := fun t S1 h0 k => by
    obtain ⟨S2, e, k2⟩ := v_make (S := S1) (px := .ref 1) (tx := .val (prD t)) (kd := .l) (rows := (ps.map prD).map .val) (ps := ps) (tl := t) (k.ps h) (by decide) (RowsW.plain _ _) (by omega) (pair_t _ _) hqm h0
    exact ⟨S2, e, k.trans k2⟩
  have hlook : look (.ref 1) S = some (.l, (ps.map prD).map .val) := h
  unfold x__law_unlike_tails
  have lst : evLst false (eaCons (evC (.int 3)) (eaCons (evCB gTuple (eaCons (evVar 0) eaNil)) (eaCons (evCB (gList false) (eaCons (evVar 0) eaNil)) (eaCons (evC .non) eaNil)))) (startE 4 [.ref 1, .val (prD tl)]) S = .ok (.val (.lst [.int 3, .tup (ps.map prD), .lst (ps.map prD), .non])) S := by
    refine e_cb (ws := [wI 3, .val (.tup (ps.map prD)), .val (.lst (ps.map prD)), .val .non]) (S1 := S) (a_cons (S1 := S) rfl (a_cons (S1 := S) (e_cb (ws := [.ref 1]) (S1 := S) rfl ?_) (a_cons (S1 := S) (e_cb (ws := [.ref 1]) (S1 := S) rfl ?_) (a_cons (S1 := S) (us := []) rfl rfl)))) rfl
    · unfold gTuple
      dsimp only
      rw [hlook]
      exact mk_tup (by simp; omega)
    · unfold gList
      dsimp only
      rw [hlook]
      exact mk_plain (by simp; omega)
  refine o_lit (dd := .lst [.int 3, .tup (ps.map prD), .lst (ps.map prD), .non]) (kd := .l) (ws := [wI 3, .val (.tup (ps.map prD)), .val (.lst (ps.map prD)), .val .non]) (S1 := S) lst (fun _ => rfl) ?_
  refine each_inv (fun ρ S' => Ext S S' ∧ ∃ a b, ρ = [some (.ref 1), some (.val (prD tl)), a, b]) (fun ρ S1 hI => ?_) _ (fun w hw ρ S1 hI => ?_) _ S ⟨Ext.refl, none, none, rfl⟩
  · obtain ⟨k1, a, b, rfl⟩ := hI
    refine o_lit (dd := .lst [.lst [prD tl, prD (tl.1 + 1, tl.2)], .lst [prD tl, prD (tl.1, tl.2 - 1)], .lst [prD (1, 0), prD (1, 1)], .lst [prD (0, 1), prD (2, 1)]]) (kd := .l) (ws := [.val (.lst [prD tl, prD (tl.1 + 1, tl.2)]), .val (.lst [prD tl, prD (tl.1, tl.2 - 1)]), .val (.lst [prD (1, 0), prD (1, 1)]), .val (.lst [prD (0, 1), prD (2, 1)])]) (S1 := S1) ?_ (fun _ => rfl) ?_
    · have q0 : ∀ {ρ : G.Env} {S : Hs}, ρ[1]? = some (some (.val (prD tl))) → evBin gIx (evVar 1) (evC (.int 0)) ρ S = .ok (wI tl.1) S := fun h => e_bin (x := .val (prD tl)) (y := wI 0) (by unfold evVar; rw [h]) rfl (ix0 ..)
      have q1 : ∀ {ρ : G.Env} {S : Hs}, ρ[1]? = some (some (.val (prD tl))) → evBin gIx (evVar 1) (evC (.int 1)) ρ S = .ok (wI tl.2) S := fun h => e_bin (x := .val (prD tl)) (y := wI 1) (by unfold evVar; rw [h]) rfl (ix1 ..)
      refine e_cb (ws := [.val (.lst [prD tl, prD (tl.1 + 1, tl.2)]), .val (.lst [prD tl, prD (tl.1, tl.2 - 1)]), .val (.lst [prD (1, 0), prD (1, 1)]), .val (.lst [prD (0, 1), prD (2, 1)])]) (S1 := S1) (a_cons (S1 := S1) ?_ (a_cons (S1 := S1) ?_ (a_cons (S1 := S1) rfl (a_cons (S1 := S1) (us := []) rfl rfl)))) rfl
      · exact e_cb (ws := [.val (prD tl), .val (prD (tl.1 + 1, tl.2))]) (S1 := S1) (a_cons (S1 := S1) rfl (a_cons (S1 := S1) (us := []) (e_cb (ws := [wI (tl.1 + 1), wI tl.2]) (S1 := S1) (a_cons (S1 := S1) (e_bin (q0 rfl) rfl rfl) (a_cons (S1 := S1) (us := []) (q1 rfl) rfl)) rfl) rfl)) rfl
      · exact e_cb (ws := [.val (prD tl), .val (prD (tl.1, tl.2 - 1))]) (S1 := S1) (a_cons (S1 := S1) rfl (a_cons (S1 := S1) (us := []) (e_cb (ws := [wI tl.1, wI (tl.2 - 1)]) (S1 := S1) (a_cons (S1 := S1) (q0 rfl) (a_cons (S1 := S1) (us := []) (e_bin (q1 rfl) rfl rfl) rfl)) rfl) rfl)) rfl
    · refine each_inv (fun ρ S' => Ext S S' ∧ ∃ a b, ρ = [some (.ref 1), some (.val (prD tl)), a, b]) (fun ρ S1 hI => ?_) _ (fun w hw ρ S1 hI => ?_) _ S1 ⟨k1, _, _, rfl⟩
      · obtain ⟨k1, a, b, rfl⟩ := hI
        exact o_ret (x := .val (.bl true)) (S1 := S1) rfl ⟨S1, rfl, k1⟩
      · obtain ⟨k1, a, b, rfl⟩ := hI
        have hw2 : ∃ t u : Int × Int, w = .val (.lst [prD t, prD u]) ∧ t ≠ u ∧ 0 ≤ t.1 ∧ 0 ≤ u.1 := by
          simp only [List.mem_cons, List.not_mem_nil, or_false] at hw
          rcases hw with z | z | z | z
          · refine ⟨_, _, z, fun e => ?_, ht, by show 0 ≤ tl.1 + 1; omega⟩
            have : tl.1 = tl.1 + 1 := congrArg Prod.fst e
            omega
          · refine ⟨_, _, z, fun e => ?_, ht, ht⟩
            have : tl.2 = tl.2 - 1 := congrArg Prod.snd e
            omega
          · exact ⟨_, _, z, by decide, by decide, by decide⟩
          · exact ⟨_, _, z, by decide, by decide, by decide⟩
        obtain ⟨t, u, rfl, hne, t0, u0⟩ := hw2
        obtain ⟨S2, m1, k2⟩ := mk t S1 t0 k1
        obtain ⟨S3, m2, k3⟩ := mk u S2 u0 k2
        refine o_pass (S1 := S3) (t_v (e_bin (x := .val (numD (trim ps t) t)) (y := .val (numD (trim ps u) u)) (S1 := S2) (S2 := S3) (e_mk (ws := [.ref 1]) (us := [.val (prD t)]) (S1 := S1) (S2 := S1) rfl (a_cons (us := []) (S1 := S1) (e_bin (x := .val (.lst [prD t, prD u])) (y := wI 0) (S1 := S1) (S2 := S1) rfl rfl rfl) rfl) ⟨rfl, rfl⟩ m1) (e_mk (ws := [.ref 1]) (us := [.val (prD u)]) (S1 := S2) (S2 := S2) rfl (a_cons (us := []) (S1 := S2) (e_bin (x := .val (.lst [prD t, prD u])) (y := wI 1) (S1 := S2) (S2 := S2) rfl rfl rfl) rfl) ⟨rfl, rfl⟩ m2) ?_)) (o_next ⟨k3, _, _, rfl⟩)
        rw [own_eq, if_neg Bool.false_ne_true, decide_eq_false hne, Bool.and_false]
  · obtain ⟨k1, a, b, rfl⟩ := hI
    have hw2 : ∃ d, w = .val d ∧ ∃ n, tagD d = some (.b n) ∧ T_any_Numbers.b.lookup n = some true ∧ T_Numbers.b.lookup n = some false := by
      simp only [List.mem_cons, List.not_mem_nil, or_false] at hw
      rcases hw with z | z | z | z
      · exact ⟨_, z, "int", rfl, by decide, by decide⟩
      · exact ⟨_, z, "tuple", rfl, by decide, by decide⟩
      · exact ⟨_, z, "list", rfl, by decide, by decide⟩
      · exact ⟨_, z, "NoneType", rfl, by decide, by decide⟩
    obtain ⟨d, rfl, hd⟩ := hw2
    obtain ⟨S2, m1, k2⟩ := mk tl S1 ht k1
    exact o_pass (S1 := S2) (t_v (e_bin (x := .val (.bl false)) (y := .val (.bl false)) (S1 := S2) (S2 := S2) (e_bin (x := .val (numD (trim ps tl) tl)) (y := .val d) (S1 := S2) (S2 := S2) (e_mk (ws := [.ref 1]) (us := [.val (prD tl)]) (S1 := S1) (S2 := S1) rfl rfl ⟨rfl, rfl⟩ m1) rfl (own_other _ _ _ _ hd)) rfl rfl)) (o_next ⟨k2, _, _, rfl⟩)
/-! the doors -/
theorem v_doors_right (qs : List (Int × Int)) (tl : Int × Int) (hq : ∀ p, p ∈ qs → 0 ≤ p.1) (ht : 0 ≤ tl.1) (hl : qs.length ≤ 900) (S : Hs) : callV r__law_doors_right [.val (numD qs tl)] S = .ok (.val (.bl true)) S := by
  refine call_of rfl rfl ?_
  unfold x__law_doors_right
  refine o_seqNx (ρ1 := [some (.val (numD qs tl)), some (wI 12), some (.val (.str (PySem.Str.ofString "0"))), some (.val (.lst [.str (PySem.Str.ofString "number"), .str (PySem.Str.ofString "many")]))]) (S1 := []) (by kernel_rfl) ?_
  refine o_seqNx (ρ1 := [some (.val (numD qs tl)), some (wI 9), some (.val (.str (PySem.Str.ofString "0"))), some (.val (.lst [.str (PySem.Str.ofString "number"), .str (PySem.Str.ofString "many")]))]) (S1 := []) (by kernel_rfl) ?_
  refine o_seqNx (ρ1 := [some (.val (numD qs tl)), some (wI 9), some (.val (.str (PySem.Str.ofString "0"))), some (.val (.lst [.str (PySem.Str.ofString "number"), .str (PySem.Str.ofString "many")]))]) (S1 := []) (by kernel_rfl) ?_
  have er := v_raised qs tl hq ht (by omega) 2 (by omega) (prD (1, 1)) (1, 1) (fun S => pair_t S (1, 1)) (by decide) []
  refine o_ret (x := .val (.bl true)) (S1 := []) (e_bin (x := .val (numD (trim (List.replicate 2 (1, 1) ++ qs) tl) tl)) (y := .val (numD (trim (List.replicate 2 (1, 1) ++ qs) tl) tl)) (S1 := []) (S2 := []) (e_me (S2 := []) (ws := [wI (2 : Nat)]) rfl rfl rfl er) (e_me (S2 := []) (ws := [wI (2 : Nat), .val (prD (1, 1))]) rfl rfl rfl er) (ownF _ _ _ rfl _)) ⟨_, rfl⟩
end HT

set_option maxRecDepth 100000
set_option linter.all false
set_option Elab.async false
/-! A15: what is refused. -/
namespace HT
open PySem G
theorem seq_exc {a : Ev} {b : Es} {ρ : G.Env} {S S1 : Hs} {c : Str} {fs : List (Str × G.D)} (h : a ρ S = .exc c fs S1) : esSeq (esDrop a) b ρ S = .exc c fs ρ S1 := by
  unfold esSeq esDrop
  rw [h]
  rfl
theorem callV_exc {run : G.Run} {ws : List W} {ds : List G.D} {c : Str} {fs : List (Str × G.D)} {S T : Hs} (hv : vals? ws = some ds) (e : run ws [] = .exc c fs T) : callV run ws S = .exc c fs S := by
  unfold callV
  rw [hv]
  dsimp only
  rw [e]
def madeD (k : Int) : G.D := .lst [.str (PySem.Str.ofString "numbers"), .int k, .bl true]
def atX (k : Int) : List (Str × G.D) := [(PySem.Str.ofString "at", .int k)]
theorem eq_made (k : Int) (S : Hs) : eqW (.val (madeD k)) (.val (madeD k)) S = some true := by
  have hd : SeqAt.shaped (.list [.str (PySem.Str.ofString "numbers"), .int k, .bool true]) = true := by
    unfold SeqAt.shaped
    have h1 : PyData.canLay0 (.str (PySem.Str.ofString "numbers")) = true := by decide +kernel
    simp [PyData.canLay0, PyData.canLayAll0, PyData.depth, PyData.depthAll] at h1 ⊢
    exact h1
  rw [eqW_py (d := .list [.str (PySem.Str.ofString "numbers"), .int k, .bool true]) (e := .list [.str (PySem.Str.ofString "numbers"), .int k, .bool true]) rfl rfl rfl hd hd]
  simp [PyData.eqv, PyData.eqvAll]
theorem make_exc {S : Hs} {px tx : W} {k : Int} (h : Out PF (fun r => ∃ ρ S', r = .exc "BadNumbers" (atX k) ρ S' ∧ Ext S S') (x_Numbers___init__ (startE 5 [.ref S.length, px, tx]) (S ++ [some (.ob "Numbers" [])]))) :
    ∃ S', makeR "Numbers" r_Numbers___init__ [px, tx] S = .exc "BadNumbers" (atX k) S' ∧ Ext S S' := by
  have e0 : ∀ S0, r_Numbers___init__ [.ref S.length, px, tx] S0 = (x_Numbers___init__ (startE 5 [.ref S.length, px, tx]) S0).toR := fun _ => rfl
  unfold makeR
  rw [e0]
  cases e : x_Numbers___init__ (startE 5 [.ref S.length, px, tx]) (S ++ [some (.ob "Numbers" [])]) with
  | exc c fs ρ S' =>
    rw [e] at h
    obtain ⟨ρ2, S2, q, x⟩ := h.o
    cases q
    exact ⟨_, rfl, x⟩
  | nx ρ S' => rw [e] at h; exact h.o.elim
  | rt w S' => rw [e] at h; obtain ⟨ρ2, S2, q, x⟩ := h.o; cases q
  | ct ρ S' => rw [e] at h; exact h.o.elim
  | bk ρ S' => rw [e] at h; exact h.o.elim
  | no => rw [e] at h; exact h.o.elim
/-- a wrong pair behind right ones -/
theorem init_bad1 {S : Hs} {px tx : W} {kd : Sk} {rows rest : List W} {bad : W} {ps : List (Int × Int)} (h : look px S = some (kd, rows ++ bad :: rest)) (hr : RowsW S rows ps) (hq : ∀ p, p ∈ ps → 0 ≤ p.1) (hb : ∀ S, callV r_is_number_pair [bad] S = .ok (.val (.bl false)) S) :
    Out PF (fun r => ∃ ρ S', r = .exc "BadNumbers" (atX ps.length) ρ S' ∧ Ext S S') (x_Numbers___init__ (startE 5 [.ref S.length, px, tx]) (S ++ [some (.ob "Numbers" [])])) := by
  have x0 : Ext S (S ++ [some (.ob "Numbers" [])]) := ext_app _ _
  unfold x_Numbers___init__
  refine o_pass (S1 := S ++ [some (.ob "Numbers" [])]) (t_not (c := true) (t_v (e_cb (ws := [px]) rfl (v_is_row (x0.look h))))) ?_
  refine o_enum (x := px) (ws := rows ++ bad :: rest) (fun i ρ S' => S' = S ++ [some (.ob "Numbers" [])] ∧ i ≤ ps.length ∧ ∃ a b, ρ = [some (.ref S.length), some px, some tx, a, b]) (S1 := S ++ [some (.ob "Numbers" [])]) rfl ⟨rfl, Nat.zero_le _, none, none, rfl⟩ (fun i ρ S' hI => ?_) (fun i w ρ S' e hI => ?_) (fun ρ S' hI => ?_)
  · obtain ⟨rfl, _⟩ := hI
    exact ⟨kd, x0.look h⟩
  · obtain ⟨rfl, hi, a, b, rfl⟩ := hI
    by_cases z : i < ps.length
    · have e2 : rows[i]? = some w := by rw [List.getElem?_append_left (by rw [hr.len]; exact z)] at e; exact e
      have hp := (hr.at_ i w _ e2 (List.getElem?_eq_getElem z)).ext x0
      exact o_pass (S1 := S ++ [some (.ob "Numbers" [])]) (t_not (c := true) (t_v (e_cb (ws := [w]) rfl (v_pair hp (hq _ (List.getElem_mem z)))))) (o_next ⟨rfl, by omega, _, _, rfl⟩)
    · have hi2 : i = ps.length := by omega
      have e2 : w = bad := by
        rw [List.getElem?_append_right (by rw [hr.len]; omega), hr.len, hi2, Nat.sub_self] at e
        exact (Option.some.inj e).symm
      subst e2
      refine o_ifT (S1 := S ++ [some (.ob "Numbers" [])]) (t_not (c := false) (t_v (e_cb (ws := [w]) rfl (hb _)))) ?_
      refine o_raise (ws := [wI (i : Nat)]) (ds := [.int (i : Nat)]) (fs := atX i) (S1 := S ++ [some (.ob "Numbers" [])]) rfl rfl rfl ⟨rfl, by omega⟩ ?_
      rw [hi2]
      exact ⟨_, _, rfl, x0⟩
  · obtain ⟨rfl, hi, a, b, rfl⟩ := hI
    rw [List.length_append, List.length_cons, hr.len] at hi
    omega
/-- a wrong tail -/
theorem init_bad2 {S : Hs} {px tx : W} {kd : Sk} {rows : List W} {ps : List (Int × Int)} (h : look px S = some (kd, rows)) (hr : RowsW S rows ps) (hq : ∀ p, p ∈ ps → 0 ≤ p.1) (hb : ∀ S, callV r_is_number_pair [tx] S = .ok (.val (.bl false)) S) :
    Out PF (fun r => ∃ ρ S', r = .exc "BadNumbers" (atX ps.length) ρ S' ∧ Ext S S') (x_Numbers___init__ (startE 5 [.ref S.length, px, tx]) (S ++ [some (.ob "Numbers" [])])) := by
  have x0 : Ext S (S ++ [some (.ob "Numbers" [])]) := ext_app _ _
  unfold x_Numbers___init__
  refine o_pass (S1 := S ++ [some (.ob "Numbers" [])]) (t_not (c := true) (t_v (e_cb (ws := [px]) rfl (v_is_row (x0.look h))))) ?_
  refine o_enum (x := px) (ws := rows) (fun i ρ S' => S' = S ++ [some (.ob "Numbers" [])] ∧ ∃ a b, ρ = [some (.ref S.length), some px, some tx, a, b]) (S1 := S ++ [some (.ob "Numbers" [])]) rfl ⟨rfl, none, none, rfl⟩ (fun i ρ S' hI => ?_) (fun i w ρ S' e hI => ?_) (fun ρ S' hI => ?_)
  · obtain ⟨rfl, _⟩ := hI
    exact ⟨kd, x0.look h⟩
  · obtain ⟨rfl, a, b, rfl⟩ := hI
    have hi : i < rows.length := by
      rcases Nat.lt_or_ge i rows.length with z | z
      · exact z
      · rw [List.getElem?_eq_none z] at e; cases e
    have hi2 : i < ps.length := by rw [← hr.len]; exact hi
    have hp := (hr.at_ i w _ e (List.getElem?_eq_getElem hi2)).ext x0
    exact o_pass (S1 := S ++ [some (.ob "Numbers" [])]) (t_not (c := true) (t_v (e_cb (ws := [w]) rfl (v_pair hp (hq _ (List.getElem_mem hi2)))))) (o_next ⟨rfl, _, _, rfl⟩)
  · obtain ⟨rfl, a, b, rfl⟩ := hI
    refine o_ifT (S1 := S ++ [some (.ob "Numbers" [])]) (t_not (c := false) (t_v (e_cb (ws := [tx]) rfl (hb _)))) ?_
    refine o_raise (ws := [wI (ps.length : Nat)]) (ds := [.int (ps.length : Nat)]) (fs := atX ps.length) (S1 := S ++ [some (.ob "Numbers" [])]) (a_cons (us := []) (e_cb (ws := [px]) rfl (by rw [len_look (x0.look h), hr.len])) rfl) rfl rfl ⟨rfl, by omega⟩ ?_
    exact ⟨_, _, rfl, x0⟩
theorem made_bad {px tx : W} {S : Hs} {k : Int} (e : ∀ S0, (S0 = S ∨ ∃ ds, vals? [px, tx] = some ds) → ∃ S', callV (makeR "Numbers" r_Numbers___init__) [px, tx] S0 = .exc "BadNumbers" (atX k) S' ∧ Ext S0 S') :
    ∃ S', callV r__law_made [px, tx] S = .ok (.val (madeD k)) S' ∧ Ext S S' := by
  refine call_grow rfl fun S0 hS => ?_
  obtain ⟨S', e1, x1⟩ := e S0 hS
  unfold x__law_made
  refine o_asg (x := .val (.lst [.str (PySem.Str.ofString "made")])) (S1 := S0) rfl ?_
  refine o_seqNx (ρ1 := [some px, some tx, some (.val (madeD k)), none]) (S1 := S') (try_hit (c := "BadNumbers") (fs := atX k) (S1 := S') (S2 := S') (ρ1 := [some px, some tx, some (.val (.lst [.str (PySem.Str.ofString "made")])), none]) (ρ2 := [some px, some tx, some (.val (madeD k)), none]) (seq_exc (e_mk (ws := [px]) (us := [tx]) (S1 := S0) (S2 := S0) rfl rfl ⟨rfl, rfl⟩ e1)) (by decide +kernel) (by show 3 < 4; omega) (by kernel_rfl)) ?_
  exact o_ret (x := .val (madeD k)) (S1 := S') rfl ⟨S', rfl, x1⟩
theorem v_refusals {S : Hs} {ps : List (Int × Int)} {tl : Int × Int} {num : W} (hnum : ∃ qs, num = .val (numD qs tl)) (h : PsW S (.ref 1) ps) (hq : ∀ k, 0 ≤ (atP ps tl k).1) (hl : ps.length ≤ 900) :
    ∃ S', callV r__law_refusals [.ref 1, num] S = .ok (.val (.bl true)) S' ∧ Ext S S' := by
  obtain ⟨qs, rfl⟩ := hnum
  refine call_ref rfl rfl ?_
  have hqm : ∀ p, p ∈ ps → 0 ≤ p.1 := fun p hp => by
    obtain ⟨i, hi, e⟩ := List.getElem_of_mem hp
    have := hq i
    unfold atP at this
    rw [List.getElem?_eq_getElem hi, e] at this
    exact this
  unfold x__law_refusals
  refine o_asg (x := wI (ps.length : Nat)) (S1 := S) (e_cb (ws := [.ref 1]) (S1 := S) rfl (by rw [len_look h]; simp)) ?_
  refine o_lit (dd := .lst [.tup [.int (-1), .int 1], .tup [.int 1, .non], .tup [.bl true, .int 1], .tup [.int 1, .int 2, .int 3], .int 7, .non]) (kd := .l) (ws := [.val (.tup [.int (-1), .int 1]), .val (.tup [.int 1, .non]), .val (.tup [.bl true, .int 1]), .val (.tup [.int 1, .int 2, .int 3]), .val (.int 7), .val .non]) (S1 := S) rfl (fun _ => rfl) ?_
  refine each_inv (fun ρ S' => Ext S S' ∧ ∃ a, ρ = [some (.ref 1), some (.val (numD qs tl)), some (wI (ps.length : Nat)), a, none, none, none]) (fun ρ S1 hI => ?_) _ (fun w hw ρ S1 hI => ?_) _ S ⟨Ext.refl, none, rfl⟩
  · obtain ⟨k1, a, rfl⟩ := hI
    refine o_pass (S1 := S1) (by kernel_rfl) ?_
    refine o_seqNx (ρ1 := [some (.ref 1), some (.val (numD qs tl)), some (wI (ps.length : Nat)), a, some (.val (.str (PySem.Str.ofString "swaps"))), some (.val .non), some (.val (.bl true))]) (S1 := S1) (by kernel_rfl) ?_
    exact o_ret (x := .val (.bl true)) (S1 := S1) rfl ⟨S1, rfl, k1⟩
  · obtain ⟨k1, a, rfl⟩ := hI
    have hw2 : ∃ d, w = .val d ∧ ∀ S, callV r_is_number_pair [.val d] S = .ok (.val (.bl false)) S := by
      simp only [List.mem_cons, List.not_mem_nil, or_false] at hw
      rcases hw with z | z | z | z | z | z
      · exact ⟨_, z, fun S => by kernel_rfl⟩
      · exact ⟨_, z, fun S => by kernel_rfl⟩
      · exact ⟨_, z, fun S => by kernel_rfl⟩
      · exact ⟨_, z, fun S => by kernel_rfl⟩
      · exact ⟨_, z, fun S => by kernel_rfl⟩
      · exact ⟨_, z, fun S => by kernel_rfl⟩
    obtain ⟨d, rfl, hd⟩ := hw2
    have h1 := k1.ps h
    have h1' : look (.ref 1) S1 = some (.l, (ps.map prD).map .val) := h1
    -- list(pairs) + [bad, (1, None)]
    obtain ⟨S2, m1, x2⟩ := made_bad (S := S1) (px := .val (.lst (ps.map prD ++ [d, .tup [.int 1, .non]]))) (tx := .val (prD (1, 1))) (k := ps.length) fun S0 _ => by
      obtain ⟨S', e, _⟩ := make_exc (S := []) (px := .val (.lst (ps.map prD ++ [d, .tup [.int 1, .non]]))) (tx := .val (prD (1, 1))) (k := ps.length) (init_bad1 (kd := .l) (rows := (ps.map prD).map .val) (rest := [.val (.tup [.int 1, .non])]) (bad := .val d) (ps := ps) (by
        show some (Sk.l, (ps.map prD ++ [d, .tup [.int 1, .non]]).map W.val) = _
        rw [List.map_append]; rfl) (RowsW.plain _ _) hqm hd)
      refine ⟨S0, ?_, Ext.refl⟩
      exact callV_exc rfl e
    obtain ⟨S3, m2, x3⟩ := made_bad (S := S2) (px := .ref 1) (tx := .val d) (k := ps.length) fun S0 hS => by
      have hS2 : S0 = S2 := by
        rcases hS with z | ⟨ds, z⟩
        · exact z
        · cases z
      subst hS2
      obtain ⟨S', e, x⟩ := make_exc (S := S0) (px := .ref 1) (tx := .val d) (k := ps.length) (init_bad2 (kd := .l) (rows := (ps.map prD).map .val) (ps := ps) (x2.ps h1) (RowsW.plain _ _) hqm hd)
      exact ⟨S', e, x⟩
    have dueE : ∀ S, evLst false (eaCons (evC (.str (PySem.Str.ofString "numbers"))) (eaCons (evVar 2) (eaCons (evC (.bl true)) eaNil))) [some (.ref 1), some (.val (numD qs tl)), some (wI (ps.length : Nat)), some (.val d), none, none, none] S = .ok (.val (madeD ps.length)) S := fun S => rfl
    refine o_pass (S1 := S2) (t_v (e_bin (x := .val (madeD ps.length)) (y := .val (madeD ps.length)) (S1 := S2) (S2 := S2) (e_cb (ws := [.val (.lst (ps.map prD ++ [d, .tup [.int 1, .non]])), .val (prD (1, 1))]) (S1 := S1) (a_cons (S1 := S1) (e_bin (x := .val (.lst (ps.map prD))) (y := .val (.lst [d, .tup [.int 1, .non]])) (S1 := S1) (S2 := S1) (e_cb (ws := [.ref 1]) (S1 := S1) rfl ?_) rfl ?_) rfl) m1) (dueE S2) ?_)) ?_
    · unfold gList
      dsimp only
      rw [h1']
      exact mk_plain (by simp; omega)
    · show mkLst false ((ps.map prD).map W.val ++ [d, G.D.tup [.int 1, .non]].map W.val) S1 = _
      rw [← List.map_append]
      exact mk_plain (by simp; omega)
    · rw [gNe_of (eq_made _ _)]; rfl
    refine o_pass (S1 := S3) (t_v (e_bin (x := .val (madeD ps.length)) (y := .val (madeD ps.length)) (S1 := S3) (S2 := S3) (e_cb (ws := [.ref 1, .val d]) (S1 := S2) rfl m2) (dueE S3) ?_)) (o_next ⟨(k1.trans x2).trans x3, _, rfl⟩)
    rw [gNe_of (eq_made _ _)]; rfl
end HT

set_option maxRecDepth 100000
set_option linter.all false
set_option Elab.async false
/-! A16: what is drawn from a script; words drawn. -/
namespace HT
open PySem G
theorem div24 (i : Int) (S : Hs) : gDiv (wI i) (wI 24) S = .ok (wI (i / 24)) S := by
  unfold gDiv
  dsimp only
  have : L2.CDivW i 24 := by unfold L2.CDivW; decide
  rw [if_pos this]
theorem mod_int {i j : Int} (h : 0 < j) (S : Hs) : gMod (wI i) (wI j) S = .ok (wI (i % j)) S := if_pos h
theorem pow18 (S : Hs) : gPow (wI 10) (wI 18) S = .ok (wI (10 ^ 18)) S := by
  have h : L2.CPow 10 18 := by unfold L2.CPow; decide
  unfold gPow
  dsimp only
  rw [if_pos h]
  rfl
theorem pow12 (S : Hs) : gPow (wI 10) (wI 12) S = .ok (wI (10 ^ 12)) S := by
  have h : L2.CPow 10 12 := by unfold L2.CPow; decide
  unfold gPow
  dsimp only
  rw [if_pos h]
  rfl
/-- a cell of numbers of at least 0, so many at most -/
def DrC (S : Hs) (m : Nat) : Prop := ∃ l : List Nat, S = [some (drw l)] ∧ l.length ≤ m
theorem drw_app (l : List Nat) (n : Nat) : drw (l ++ [n]) = .lst ((l.map fun n : Nat => wI (n : Int)) ++ [wI (n : Int)]) := by
  unfold drw
  rw [List.map_append]; rfl
theorem dr_append {l : List Nat} (n : Nat) (hl : l.length < 16777216) : gAppend (.ref 0) [wI (n : Nat)] [some (drw l)] = .ok (.val .non) [some (drw (l ++ [n]))] := by
  rw [drw_app]
  exact append_cell (S := [some (drw l)]) (i := 0) rfl (by simpa using hl)
theorem nat_of {i : Int} (h : 0 ≤ i) : ∃ n : Nat, i = (n : Int) := ⟨i.toNat, by omega⟩
theorem v_draws (ns : List Int) (hl : ns.length ≤ 63) : ∃ l : List Nat, callV r__law_draws [.val (.sq (ns.map G.D.int))] [] = .ok (.ref 0) [some (drw l)] := by
  have key : Out PF (fun r => ∃ l : List Nat, r = .rt (.ref 0) [some (drw l)]) (x__law_draws (startE 6 [.val (.sq (ns.map G.D.int))]) []) := by
    have hlook : ∀ S, look (.val (.sq (ns.map G.D.int))) S = some (.s, (ns.map G.D.int).map .val) := fun _ => rfl
    unfold x__law_draws
    refine o_asg (x := .ref 0) (S1 := [some (drw [])]) rfl ?_
    refine o_rng1 (k := ns.length) (fun i ρ S => DrC S (60 * i) ∧ ∃ a b c d, ρ = [some (.val (.sq (ns.map G.D.int))), some (.ref 0), a, b, c, d]) (S1 := [some (drw [])]) (a_cons (us := []) (e_cb (ws := [wI (ns.length : Nat), wI 63]) (S1 := [some (drw [])]) (a_cons (S1 := [some (drw [])]) (e_cb (ws := [.val (.sq (ns.map G.D.int))]) (S1 := [some (drw [])]) rfl (by rw [len_look (hlook _)]; simp)) rfl) ?_) rfl) (by omega) ⟨⟨[], rfl, Nat.zero_le _⟩, none, none, none, none, rfl⟩ (fun i ρ S hi hI => ?_) (fun ρ S hI => ?_)
    · show G.R.ok (W.val (.int (if (63 : Int) < (ns.length : Int) then 63 else (ns.length : Int)))) _ = _
      rw [if_neg (by omega)]
    · obtain ⟨⟨l, rfl, hll⟩, a, b, c, d, rfl⟩ := hI
      have hat : ((ns.map G.D.int).map W.val)[i]? = some (wI ns[i]) := by
        rw [List.map_map, List.getElem?_map, List.getElem?_eq_getElem hi]; rfl
      refine o_asg (x := wI ns[i]) (S1 := [some (drw l)]) (e_cb (ws := [wI ns[i]]) (S1 := [some (drw l)]) (a_cons (us := []) (e_bin (x := .val (.sq (ns.map G.D.int))) (y := wI (i : Nat)) (S1 := [some (drw l)]) (S2 := [some (drw l)]) rfl rfl (ix_look (hlook _) i hat)) rfl) rfl) ?_
      -- from here on a number of at least 0
      have rest : ∀ m : Int, 0 ≤ m → Out (fun ρ S => DrC S (60 * (i + 1)) ∧ ∃ a b c d, ρ = [some (.val (.sq (ns.map G.D.int))), some (.ref 0), a, b, c, d]) (fun r => ∃ l : List Nat, r = .rt (.ref 0) [some (drw l)])
          ((esSeq (esIf (etV (evBin (gCmp (fun i j => decide (j ≤ i))) (evVar 3) (evBin (gPow) (evC (.int 10)) (evC (.int 18))))) (esSeq (esFor (eiRng1 (eaCons (evC (.int 60)) eaNil)) (.one (egName 4)) (esSeq (esIf (etV (evBin (gCmp (fun i j => decide (j < i))) (evVar 3) (evC (.int 0)))) (esSeq (esDrop (evBM isL gAppend (evVar 1) (eaCons (evBin (gMod) (evCB gInt (eaCons (evVar 3) eaNil)) (evC (.int 24))) eaNil))) (esSeq (esAsg (evBin (gDiv) (evVar 3) (evC (.int 24))) (egName 3)) esNext)) esNext) esNext)) esNext) (esSeq (esAsg (evBin (gMod) (evCB gInt (eaCons (evBin (gAdd false) (evBin (gAdd false) (evBin (gMul false) (evVar 3) (evC (.int 52361))) (evBin (gMul false) (evVar 2) (evC (.int 71249)))) (evC (.int 3))) eaNil)) (evC (.int 2147483647))) (egName 5)) (esSeq (esFor (eiRng1 (eaCons (evC (.int 6)) eaNil)) (.one (egName 4)) (esSeq (esAsg (evBin (gMod) (evCB gInt (eaCons (evBin (gAdd false) (evBin (gAdd false) (evBin (gAdd false) (evBin (gMul false) (evVar 5) (evVar 5)) (evBin (gMul false) (evVar 4) (evC (.int 30271)))) (evVar 2)) (evC (.int 5))) eaNil)) (evC (.int 2147483563))) (egName 5)) (esSeq (esDrop (evBM isL gAppend (evVar 1) (eaCons (evVar 5) eaNil))) esNext))) esNext))) esNext) [some (.val (.sq (ns.map G.D.int))), some (.ref 0), some (wI (i : Nat)), some (wI m), c, d] [some (drw l)]) := by
        intro m hm
        refine o_if (c := decide ((10 : Int) ^ 18 ≤ m)) (S1 := [some (drw l)]) (t_v (e_bin (x := wI m) (y := wI (10 ^ 18)) (S1 := [some (drw l)]) (S2 := [some (drw l)]) rfl (e_bin rfl rfl (pow18 _)) rfl)) (fun hc => ?_) (fun hc => ?_)
        · refine o_rng1 (k := 60) (fun j ρ S => DrC S (60 * i + j) ∧ ∃ m : Int, 0 ≤ m ∧ ∃ c d, ρ = [some (.val (.sq (ns.map G.D.int))), some (.ref 0), some (wI (i : Nat)), some (wI m), c, d]) (S1 := [some (drw l)]) rfl (by omega) ⟨⟨l, rfl, by omega⟩, m, hm, c, d, rfl⟩ (fun j ρ S hj hI => ?_) (fun ρ S hI => ?_)
          · obtain ⟨⟨l2, rfl, hl2⟩, m2, hm2, c2, d2, rfl⟩ := hI
            refine o_if (c := decide (0 < m2)) (S1 := [some (drw l2)]) (t_v (e_bin (x := wI m2) (y := wI 0) (S1 := [some (drw l2)]) (S2 := [some (drw l2)]) rfl rfl rfl)) (fun hc => ?_) (fun hc => ?_)
            · obtain ⟨n, hn⟩ := nat_of (Int.emod_nonneg m2 (show (24 : Int) ≠ 0 by decide))
              refine o_drop (x := .val .non) (S1 := [some (drw (l2 ++ [n]))]) (e_bm (x := .ref 0) (ws := [wI (n : Nat)]) (S1 := [some (drw l2)]) (S2 := [some (drw l2)]) rfl rfl (a_cons (us := []) (e_bin (x := wI m2) (y := wI 24) (S1 := [some (drw l2)]) (S2 := [some (drw l2)]) rfl rfl (by rw [mod_int (by decide), hn])) rfl) (dr_append n (by omega))) ?_
              refine o_asg (x := wI (m2 / 24)) (S1 := [some (drw (l2 ++ [n]))]) (e_bin (x := wI m2) (y := wI 24) (S1 := [some (drw (l2 ++ [n]))]) (S2 := [some (drw (l2 ++ [n]))]) rfl rfl (div24 ..)) (o_next (o_next ⟨⟨l2 ++ [n], rfl, by rw [List.length_append, List.length_singleton]; omega⟩, m2 / 24, Int.ediv_nonneg hm2 (by decide), _, _, rfl⟩))
            · exact o_next (o_next ⟨⟨l2, rfl, by omega⟩, m2, hm2, _, _, rfl⟩)
          · obtain ⟨⟨l2, rfl, hl2⟩, m2, hm2, c2, d2, rfl⟩ := hI
            exact o_next (o_next ⟨⟨l2, rfl, by omega⟩, _, _, _, _, rfl⟩)
        · have hc := of_decide_eq_false hc
          have e18 : (10 : Int) ^ 18 = 1000000000000000000 := by decide
          rw [e18] at hc
          have sm : Sz 60 m := by unfold Sz; rw [show (2 : Nat) ^ 60 = 1152921504606846976 by decide]; omega
          have s5 : Sz 20 (52361 : Int) := by unfold Sz; decide
          have s7 : Sz 20 (71249 : Int) := by unfold Sz; decide
          have s3 : Sz 20 (30271 : Int) := by unfold Sz; decide
          have si : Sz 10 (i : Int) := by unfold Sz; rw [show (2 : Nat) ^ 10 = 1024 by decide]; omega
          obtain ⟨v, hv⟩ := nat_of (Int.emod_nonneg (m * 52361 + (i : Int) * 71249 + 3) (show (2147483647 : Int) ≠ 0 by decide))
          have hvlt : (v : Int) < 2147483647 := by rw [← hv]; exact Int.emod_lt_of_pos _ (by decide)
          refine o_asg (x := wI (v : Nat)) (S1 := [some (drw l)]) (e_bin (x := wI (m * 52361 + (i : Int) * 71249 + 3)) (y := wI 2147483647) (S1 := [some (drw l)]) (S2 := [some (drw l)]) (e_cb (ws := [wI (m * 52361 + (i : Int) * 71249 + 3)]) (S1 := [some (drw l)]) (a_cons (us := []) (e_bin (x := wI (m * 52361 + (i : Int) * 71249)) (y := wI 3) (S1 := [some (drw l)]) (S2 := [some (drw l)]) (e_bin (x := wI (m * 52361)) (y := wI ((i : Int) * 71249)) (S1 := [some (drw l)]) (S2 := [some (drw l)]) (e_bin (x := wI m) (y := wI 52361) (S1 := [some (drw l)]) (S2 := [some (drw l)]) rfl rfl (mul_ok (cm_of sm s5 (by omega)))) (e_bin (x := wI (i : Nat)) (y := wI 71249) (S1 := [some (drw l)]) (S2 := [some (drw l)]) rfl rfl (mul_ok (cm_of si s7 (by omega)))) rfl) rfl rfl) rfl) rfl) rfl (by rw [mod_int (by decide), hv])) ?_
          refine o_rng1 (k := 6) (fun j ρ S => DrC S (60 * i + j) ∧ ∃ v : Nat, (v : Int) < 2147483647 ∧ ∃ c, ρ = [some (.val (.sq (ns.map G.D.int))), some (.ref 0), some (wI (i : Nat)), some (wI m), c, some (wI (v : Nat))]) (S1 := [some (drw l)]) rfl (by omega) ⟨⟨l, rfl, by omega⟩, v, hvlt, c, rfl⟩ (fun j ρ S hj hI => ?_) (fun ρ S hI => ?_)
          · obtain ⟨⟨l2, rfl, hl2⟩, v2, hv2, c2, rfl⟩ := hI
            have sv : Sz 31 (v2 : Int) := by unfold Sz; rw [show (2 : Nat) ^ 31 = 2147483648 by decide]; omega
            have sj : Sz 10 (j : Int) := by unfold Sz; rw [show (2 : Nat) ^ 10 = 1024 by decide]; omega
            obtain ⟨w, hw⟩ := nat_of (Int.emod_nonneg ((v2 : Int) * (v2 : Int) + (j : Int) * 30271 + (i : Int) + 5) (show (2147483563 : Int) ≠ 0 by decide))
            have hwlt : (w : Int) < 2147483647 := by
              have := Int.emod_lt_of_pos ((v2 : Int) * (v2 : Int) + (j : Int) * 30271 + (i : Int) + 5) (show (0 : Int) < 2147483563 by decide)
              omega
            refine o_asg (x := wI (w : Nat)) (S1 := [some (drw l2)]) (e_bin (x := wI ((v2 : Int) * (v2 : Int) + (j : Int) * 30271 + (i : Int) + 5)) (y := wI 2147483563) (S1 := [some (drw l2)]) (S2 := [some (drw l2)]) (e_cb (ws := [wI ((v2 : Int) * (v2 : Int) + (j : Int) * 30271 + (i : Int) + 5)]) (S1 := [some (drw l2)]) (a_cons (us := []) (e_bin (x := wI ((v2 : Int) * (v2 : Int) + (j : Int) * 30271 + (i : Int))) (y := wI 5) (S1 := [some (drw l2)]) (S2 := [some (drw l2)]) (e_bin (x := wI ((v2 : Int) * (v2 : Int) + (j : Int) * 30271)) (y := wI (i : Nat)) (S1 := [some (drw l2)]) (S2 := [some (drw l2)]) (e_bin (x := wI ((v2 : Int) * (v2 : Int))) (y := wI ((j : Int) * 30271)) (S1 := [some (drw l2)]) (S2 := [some (drw l2)]) (e_bin (x := wI (v2 : Nat)) (y := wI (v2 : Nat)) (S1 := [some (drw l2)]) (S2 := [some (drw l2)]) rfl rfl (mul_ok (cm_of sv sv (by omega)))) (e_bin (x := wI (j : Nat)) (y := wI 30271) (S1 := [some (drw l2)]) (S2 := [some (drw l2)]) rfl rfl (mul_ok (cm_of sj s3 (by omega)))) rfl) rfl rfl) rfl rfl) rfl) rfl) rfl (by rw [mod_int (by decide), hw])) ?_
            exact o_drop (x := .val .non) (S1 := [some (drw (l2 ++ [w]))]) (e_bm (x := .ref 0) (ws := [wI (w : Nat)]) (S1 := [some (drw l2)]) (S2 := [some (drw l2)]) rfl rfl rfl (dr_append w (by omega))) (o_next ⟨⟨l2 ++ [w], rfl, by rw [List.length_append, List.length_singleton]; omega⟩, w, hwlt, _, rfl⟩)
          · obtain ⟨⟨l2, rfl, hl2⟩, v2, hv2, c2, rfl⟩ := hI
            exact o_next (o_next ⟨⟨l2, rfl, by omega⟩, _, _, _, _, rfl⟩)
      refine o_if (c := decide (ns[i] < 0)) (S1 := [some (drw l)]) (t_v (e_bin (x := wI ns[i]) (y := wI 0) (S1 := [some (drw l)]) (S2 := [some (drw l)]) rfl rfl rfl)) (fun hc => ?_) (fun hc => ?_)
      · have hc := of_decide_eq_true hc
        exact o_asg (x := wI (1 - ns[i])) (S1 := [some (drw l)]) rfl (o_next (rest (1 - ns[i]) (by omega)))
      · have hc := of_decide_eq_false hc
        exact o_next (rest ns[i] (by omega))
    · obtain ⟨⟨l, rfl, hll⟩, a, b, c, d, rfl⟩ := hI
      refine o_drop (x := .val .non) (S1 := [some (drw l.reverse)]) ?_ (o_ret (x := .ref 0) (S1 := [some (drw l.reverse)]) rfl ⟨_, rfl⟩)
      show G.R.ok (W.val .non) [some (.lst (l.map fun n : Nat => wI (n : Int)).reverse)] = _
      unfold drw
      rw [List.map_reverse]
  have e0 : ∀ S0, r__law_draws [.val (.sq (ns.map G.D.int))] S0 = (x__law_draws (startE 6 [.val (.sq (ns.map G.D.int))]) S0).toR := fun _ => rfl
  have hv : ∀ l : List Nat, vals? (l.map fun n : Nat => wI (n : Int)) = some (l.map fun n : Nat => G.D.int (n : Int)) := fun l => by
    have z := vals_map (l.map fun n : Nat => G.D.int (n : Int))
    rw [List.map_map] at z
    exact z
  cases e : x__law_draws (startE 6 [.val (.sq (ns.map G.D.int))]) [] with
  | rt w S' =>
    rw [e] at key
    obtain ⟨l, q⟩ := key.o
    cases q
    refine ⟨l, ?_⟩
    unfold callV
    dsimp only [vals?, Option.map]
    rw [e0, e]
    dsimp only [RS.toR]
    show (match vals? (l.map fun n : Nat => wI (n : Int)) with
      | some _ => G.R.ok (W.ref 0) [some (.lst (l.map fun n : Nat => wI (n : Int)))]
      | none => .no) = _
    rw [hv]
    rfl
  | nx ρ S' => rw [e] at key; exact key.o.elim
  | exc c fs ρ S' => rw [e] at key; obtain ⟨l, q⟩ := key.o; cases q
  | ct ρ S' => rw [e] at key; exact key.o.elim
  | bk ρ S' => rw [e] at key; exact key.o.elim
  | no => rw [e] at key; exact key.o.elim
theorem v_word {S : Hs} {l : List Nat} {m : Nat} (h : S[0]? = some (some (drw l))) (hm : m ≤ 100) : ∃ w l', w.length ≤ m ∧ callV r__law_word [.ref 0, wI (m : Nat)] S = .ok (.val (.str (wd w))) (S.set 0 (some (drw l'))) := by
  obtain ⟨k, l1, hk, e1⟩ := v_take (m := m + 1) h (by omega)
  have h1 := draws_get (l' := l1) h
  have key : Out PF (fun r => ∃ w l', w.length ≤ m ∧ r = .rt (.val (.str (wd w))) (S.set 0 (some (drw l')))) (x__law_word (startE 4 [.ref 0, wI (m : Nat)]) S) := by
    unfold x__law_word
    refine o_asg (x := .val (.str (wd []))) (S1 := S) (by kernel_rfl) ?_
    refine o_rng1 (k := k) (fun i ρ S' => (∃ l', S' = S.set 0 (some (drw l'))) ∧ ∃ w, w.length = i ∧ ∃ a, ρ = [some (.ref 0), some (wI (m : Nat)), some (.val (.str (wd w))), a]) (S1 := S.set 0 (some (drw l1))) (a_cons (us := []) (e_cb (ws := [.ref 0, wI ((m + 1 : Nat) : Int)]) (S1 := S) rfl e1) rfl) (by omega) ⟨⟨l1, rfl⟩, [], rfl, none, rfl⟩ (fun i ρ S' hi hI => ?_) (fun ρ S' hI => ?_)
    · obtain ⟨⟨l2, rfl⟩, w, hw, a, rfl⟩ := hI
      have h2 := draws_get (l' := l2) h
      obtain ⟨v, l3, hv, e3⟩ := v_take (m := 2) h2 (by omega)
      rw [List.set_set] at e3
      have add : ∀ b : Bool, gAddI (.val (.str (wd w))) (.val (.str (wd [b]))) (S.set 0 (some (drw l3))) = .ok (.val (.str (wd (w ++ [b])))) (S.set 0 (some (drw l3))) := fun b => by
        show (if (wd w).length + (wd [b]).length ≤ 16777216 then G.R.ok (W.val (.str (wd w ++ wd [b]))) _ else .no) = _
        rw [wd_len, wd_len, if_pos (by rw [List.length_singleton]; omega), wd_app]
      refine o_if (c := decide ((v : Int) = 0)) (S1 := S.set 0 (some (drw l3))) (t_v (e_bin (x := wI (v : Nat)) (y := wI 0) (S1 := S.set 0 (some (drw l3))) (S2 := S.set 0 (some (drw l3))) (e_cb (ws := [.ref 0, wI 2]) (S1 := S.set 0 (some (drw l2))) rfl e3) rfl (gEq_int ..))) (fun c => ?_) (fun c => ?_)
      · exact o_aug (x := .val (.str (wd w))) (y := .val (.str (wd [true]))) (z := .val (.str (wd (w ++ [true])))) (S1 := S.set 0 (some (drw l3))) (S2 := S.set 0 (some (drw l3))) rfl (by kernel_rfl) (add true) (o_next (o_next ⟨⟨l3, rfl⟩, w ++ [true], by rw [List.length_append, List.length_singleton, hw], _, rfl⟩))
      · exact o_aug (x := .val (.str (wd w))) (y := .val (.str (wd [false]))) (z := .val (.str (wd (w ++ [false])))) (S1 := S.set 0 (some (drw l3))) (S2 := S.set 0 (some (drw l3))) rfl (by kernel_rfl) (add false) (o_next (o_next ⟨⟨l3, rfl⟩, w ++ [false], by rw [List.length_append, List.length_singleton, hw], _, rfl⟩))
    · obtain ⟨⟨l2, rfl⟩, w, hw, a, rfl⟩ := hI
      exact o_ret (x := .val (.str (wd w))) (S1 := S.set 0 (some (drw l2))) rfl ⟨w, l2, by omega, rfl⟩
  have e0 : callV r__law_word [.ref 0, wI (m : Nat)] S = (x__law_word (startE 4 [.ref 0, wI (m : Nat)]) S).toR := rfl
  cases e : x__law_word (startE 4 [.ref 0, wI (m : Nat)]) S with
  | rt x S' =>
    rw [e] at key
    obtain ⟨w, l', hw, q⟩ := key.o
    cases q
    exact ⟨w, l', hw, by rw [e0, e]; rfl⟩
  | nx ρ S' => rw [e] at key; exact key.o.elim
  | exc c fs ρ S' => rw [e] at key; obtain ⟨w, l', hw, q⟩ := key.o; cases q
  | ct ρ S' => rw [e] at key; exact key.o.elim
  | bk ρ S' => rw [e] at key; exact key.o.elim
  | no => rw [e] at key; exact key.o.elim
end HT

set_option maxRecDepth 100000
set_option linter.all false
set_option Elab.async false
/-! A17: the law's last part. -/
namespace HT
open PySem G
def x_lawB : Es := (esSeq (esAsg (evCB (gList false) (eaCons (evVar 2) eaNil)) (egName 5)) (esSeq (esAsg (evMk "Numbers" 1 1 r_Numbers___init__ (fun ws zs => ws ++ zs) (eaCons (evVar 5) eaNil) (eaCons (evVar 4) eaNil)) (egName 6)) (esSeq (esIf (etOr (etV (evBin (gNe) (evVar 5) (evVar 2))) (etAnd (etV (evBin (gEq) (evCall r__law_take (eaCons (evVar 1) (eaCons (evC (.int 4)) eaNil))) (evC (.int 1)))) (etNot (etV (evCall r__law_refusals (eaCons (evVar 2) (eaCons (evVar 6) eaNil))))))) (esSeq (esRet (evC (.bl false))) esNext) esNext) (esSeq (esIf (etOr (etNot (etV (evCall r__law_doors_right (eaCons (evVar 6) eaNil)))) (etOr (etNot (etV (evCall r__law_kept_apart (eaCons (evVar 2) (eaCons (evVar 4) (eaCons (evVar 6) eaNil)))))) (etNot (etV (evCall r__law_unlike_tails (eaCons (evVar 2) (eaCons (evVar 4) eaNil))))))) (esSeq (esRet (evC (.bl false))) esNext) esNext) (esSeq (esAsg (evCall r__law_take (eaCons (evVar 1) (eaCons (evC (.int 6)) eaNil))) (egName 7)) (esSeq (esAsg (evCall r__law_take (eaCons (evVar 1) (eaCons (evC (.int 6)) eaNil))) (egName 8)) (esSeq (esAsg (evCall r__law_take (eaCons (evVar 1) (eaCons (evC (.int 4)) eaNil))) (egName 9)) (esSeq (esAsg (evLc false [11] (eiRng1 (eaCons (evBin (gAdd false) (evBin (gAdd false) (evVar 8) (evVar 9)) (evC (.int 1))) eaNil)) (.one (egName 11)) etYes (evMe "Numbers" "gain" r_Numbers_gain [] (evVar 6) (eaCons (evVar 7) (eaCons (evVar 11) eaNil)))) (egName 10)) (esSeq (esFor (eiRng1 (eaCons (evCB gLen (eaCons (evVar 10) eaNil)) eaNil)) (.one (egName 11)) (esSeq (esIf (etOr (etNot (etV (evCall r__law_int (eaCons (evBin gIx (evVar 10) (evVar 11)) eaNil)))) (etV (evBin (gNe) (evBin gIx (evVar 10) (evVar 11)) (evCall r__law_sum (eaCons (evVar 2) (eaCons (evVar 4) (eaCons (evVar 7) (eaCons (evVar 11) eaNil)))))))) (esSeq (esRet (evC (.bl false))) esNext) esNext) esNext)) (esSeq (esAsg (evC (.int 1)) (egName 12)) (esSeq (esFor (eiRng1 (eaCons (evBin (gAdd false) (evVar 8) (evVar 9)) eaNil)) (.one (egName 11)) (esSeq (esIf (etV (evBin (gNe) (evMe "Numbers" "swaps" r_Numbers_swaps [] (evVar 6) (eaCons (evVar 7) (eaCons (evVar 11) eaNil))) (evVar 12))) (esSeq (esRet (evC (.bl false))) esNext) esNext) (esSeq (esAsg (evBin (gMul false) (evVar 12) (evBin gIx (evCall r__law_at (eaCons (evVar 2) (eaCons (evVar 4) (eaCons (evBin (gAdd false) (evVar 7) (evVar 11)) eaNil)))) (evC (.int 0)))) (egName 12)) esNext))) (esSeq (esAsg (evC (.int 1)) (egName 13)) (esSeq (esFor (eiSeq (evSl false (evVar 10) (eoSome (evC (.int 1))) eoNone)) (.one (egName 14)) (esSeq (esAsg (evBin (gMul false) (evVar 13) (evVar 14)) (egName 13)) esNext)) (esSeq (esIf (etV (evBin (gNe) (evMe "Numbers" "gains" r_Numbers_gains [] (evVar 6) (eaCons (evVar 7) (eaCons (evBin (gAdd false) (evVar 8) (evVar 9)) eaNil))) (evVar 13))) (esSeq (esRet (evC (.bl false))) esNext) esNext) (esSeq (esIf (etV (evBin (gNe) (evBin gIx (evVar 10) (evBin (gAdd false) (evVar 8) (evVar 9))) (evBin (gAdd false) (evBin (gMul false) (evMe "Numbers" "swaps" r_Numbers_swaps [] (evVar 6) (eaCons (evBin (gAdd false) (evVar 7) (evVar 8)) (eaCons (evVar 9) eaNil))) (evBin gIx (evVar 10) (evVar 8))) (evMe "Numbers" "gain" r_Numbers_gain [] (evVar 6) (eaCons (evBin (gAdd false) (evVar 7) (evVar 8)) (eaCons (evVar 9) eaNil)))))) (esSeq (esRet (evC (.bl false))) esNext) esNext) (esSeq (esIf (etV (evBin (gCmp (fun i j => decide (j < i))) (evVar 8) (evC (.int 0)))) (esSeq (esAsg (evBin (gMul false) (evBin gIx (evCall r__law_at (eaCons (evVar 2) (eaCons (evVar 4) (eaCons (evVar 7) eaNil)))) (evC (.int 1))) (evMe "Numbers" "swaps" r_Numbers_swaps [] (evVar 6) (eaCons (evBin (gAdd false) (evVar 7) (evC (.int 1))) (eaCons (evBin (gMinus) (evVar 8) (evC (.int 1))) eaNil)))) (egName 19)) (esSeq (esIf (etV (evBin (gNe) (evBin (gMinus) (evBin gIx (evVar 10) (evVar 8)) (evMe "Numbers" "gain" r_Numbers_gain [] (evVar 6) (eaCons (evBin (gAdd false) (evVar 7) (evC (.int 1))) (eaCons (evBin (gMinus) (evVar 8) (evC (.int 1))) eaNil)))) (evVar 19))) (esSeq (esRet (evC (.bl false))) esNext) esNext) esNext)) esNext) (esSeq (esAsg (evBin (gAdd false) (evVar 7) (evCall r__law_take (eaCons (evVar 1) (eaCons (evC (.int 4)) eaNil)))) (egName 15)) (esSeq (esIf (etNot (etV (evCall r__law_words_right (eaCons (evVar 6) (eaCons (evVar 2) (eaCons (evVar 4) (eaCons (evVar 7) (eaCons (evVar 15) (eaCons (evLst false (eaCons (evCall r__law_word (eaCons (evVar 1) (eaCons (evC (.int 6)) eaNil))) (eaCons (evCall r__law_word (eaCons (evVar 1) (eaCons (evC (.int 5)) eaNil))) eaNil))) eaNil))))))))) (esSeq (esRet (evC (.bl false))) esNext) esNext) (esSeq (esAsg (evBin (gAdd false) (evVar 7) (evCall r__law_take (eaCons (evVar 1) (eaCons (evC (.int 6)) eaNil)))) (egName 16)) (esSeq (esIf (etV (evBin (gNe) (evCall r_first_not_above (eaCons (evVar 6) (eaCons (evVar 7) (eaCons (evVar 16) eaNil)))) (evCall r__law_first (eaCons (evVar 2) (eaCons (evVar 4) (eaCons (evVar 7) (eaCons (evVar 16) (eaCons (evC (.str (PySem.Str.ofString "above"))) eaNil)))))))) (esSeq (esRet (evC (.bl false))) esNext) esNext) (esSeq (esAsg (evCall r__law_first (eaCons (evVar 2) (eaCons (evVar 4) (eaCons (evVar 7) (eaCons (evVar 16) (eaCons (evC (.str (PySem.Str.ofString "0"))) eaNil)))))) (egName 17)) (esSeq (esAsg (evVar 16) (egName 18)) (esSeq (esIf (etV (evBin (gNotN) (evVar 17) (evC .non))) (esSeq (esAsg (evBin (gMinus) (evBin (gAdd false) (evVar 7) (evVar 17)) (evC (.int 1))) (egName 18)) esNext) esNext) (esSeq (esIf (etV (evBin (gNe) (evCall r_last_alive (eaCons (evVar 6) (eaCons (evVar 7) (eaCons (evVar 16) eaNil)))) (evVar 18))) (esSeq (esRet (evC (.bl false))) esNext) esNext) (esSeq (esIf (etNot (etV (evCall r__law_dead_right (eaCons (evVar 6) (eaCons (evVar 2) (eaCons (evVar 4) (eaCons (evVar 16) eaNil))))))) (esSeq (esRet (evC (.bl false))) esNext) esNext) (esSeq (esRet (evCall r__law_changes_right (eaCons (evVar 1) (eaCons (evVar 6) (eaCons (evVar 2) (eaCons (evVar 4) eaNil)))))) esNext))))))))))))))))))))))))))
def x_lawC : Es := (esSeq (esAsg (evCall r__law_take (eaCons (evVar 1) (eaCons (evC (.int 6)) eaNil))) (egName 7)) (esSeq (esAsg (evCall r__law_take (eaCons (evVar 1) (eaCons (evC (.int 6)) eaNil))) (egName 8)) (esSeq (esAsg (evCall r__law_take (eaCons (evVar 1) (eaCons (evC (.int 4)) eaNil))) (egName 9)) (esSeq (esAsg (evLc false [11] (eiRng1 (eaCons (evBin (gAdd false) (evBin (gAdd false) (evVar 8) (evVar 9)) (evC (.int 1))) eaNil)) (.one (egName 11)) etYes (evMe "Numbers" "gain" r_Numbers_gain [] (evVar 6) (eaCons (evVar 7) (eaCons (evVar 11) eaNil)))) (egName 10)) (esSeq (esFor (eiRng1 (eaCons (evCB gLen (eaCons (evVar 10) eaNil)) eaNil)) (.one (egName 11)) (esSeq (esIf (etOr (etNot (etV (evCall r__law_int (eaCons (evBin gIx (evVar 10) (evVar 11)) eaNil)))) (etV (evBin (gNe) (evBin gIx (evVar 10) (evVar 11)) (evCall r__law_sum (eaCons (evVar 2) (eaCons (evVar 4) (eaCons (evVar 7) (eaCons (evVar 11) eaNil)))))))) (esSeq (esRet (evC (.bl false))) esNext) esNext) esNext)) (esSeq (esAsg (evC (.int 1)) (egName 12)) (esSeq (esFor (eiRng1 (eaCons (evBin (gAdd false) (evVar 8) (evVar 9)) eaNil)) (.one (egName 11)) (esSeq (esIf (etV (evBin (gNe) (evMe "Numbers" "swaps" r_Numbers_swaps [] (evVar 6) (eaCons (evVar 7) (eaCons (evVar 11) eaNil))) (evVar 12))) (esSeq (esRet (evC (.bl false))) esNext) esNext) (esSeq (esAsg (evBin (gMul false) (evVar 12) (evBin gIx (evCall r__law_at (eaCons (evVar 2) (eaCons (evVar 4) (eaCons (evBin (gAdd false) (evVar 7) (evVar 11)) eaNil)))) (evC (.int 0)))) (egName 12)) esNext))) (esSeq (esAsg (evC (.int 1)) (egName 13)) (esSeq (esFor (eiSeq (evSl false (evVar 10) (eoSome (evC (.int 1))) eoNone)) (.one (egName 14)) (esSeq (esAsg (evBin (gMul false) (evVar 13) (evVar 14)) (egName 13)) esNext)) (esSeq (esIf (etV (evBin (gNe) (evMe "Numbers" "gains" r_Numbers_gains [] (evVar 6) (eaCons (evVar 7) (eaCons (evBin (gAdd false) (evVar 8) (evVar 9)) eaNil))) (evVar 13))) (esSeq (esRet (evC (.bl false))) esNext) esNext) (esSeq (esIf (etV (evBin (gNe) (evBin gIx (evVar 10) (evBin (gAdd false) (evVar 8) (evVar 9))) (evBin (gAdd false) (evBin (gMul false) (evMe "Numbers" "swaps" r_Numbers_swaps [] (evVar 6) (eaCons (evBin (gAdd false) (evVar 7) (evVar 8)) (eaCons (evVar 9) eaNil))) (evBin gIx (evVar 10) (evVar 8))) (evMe "Numbers" "gain" r_Numbers_gain [] (evVar 6) (eaCons (evBin (gAdd false) (evVar 7) (evVar 8)) (eaCons (evVar 9) eaNil)))))) (esSeq (esRet (evC (.bl false))) esNext) esNext) (esSeq (esIf (etV (evBin (gCmp (fun i j => decide (j < i))) (evVar 8) (evC (.int 0)))) (esSeq (esAsg (evBin (gMul false) (evBin gIx (evCall r__law_at (eaCons (evVar 2) (eaCons (evVar 4) (eaCons (evVar 7) eaNil)))) (evC (.int 1))) (evMe "Numbers" "swaps" r_Numbers_swaps [] (evVar 6) (eaCons (evBin (gAdd false) (evVar 7) (evC (.int 1))) (eaCons (evBin (gMinus) (evVar 8) (evC (.int 1))) eaNil)))) (egName 19)) (esSeq (esIf (etV (evBin (gNe) (evBin (gMinus) (evBin gIx (evVar 10) (evVar 8)) (evMe "Numbers" "gain" r_Numbers_gain [] (evVar 6) (eaCons (evBin (gAdd false) (evVar 7) (evC (.int 1))) (eaCons (evBin (gMinus) (evVar 8) (evC (.int 1))) eaNil)))) (evVar 19))) (esSeq (esRet (evC (.bl false))) esNext) esNext) esNext)) esNext) (esSeq (esAsg (evBin (gAdd false) (evVar 7) (evCall r__law_take (eaCons (evVar 1) (eaCons (evC (.int 4)) eaNil)))) (egName 15)) (esSeq (esIf (etNot (etV (evCall r__law_words_right (eaCons (evVar 6) (eaCons (evVar 2) (eaCons (evVar 4) (eaCons (evVar 7) (eaCons (evVar 15) (eaCons (evLst false (eaCons (evCall r__law_word (eaCons (evVar 1) (eaCons (evC (.int 6)) eaNil))) (eaCons (evCall r__law_word (eaCons (evVar 1) (eaCons (evC (.int 5)) eaNil))) eaNil))) eaNil))))))))) (esSeq (esRet (evC (.bl false))) esNext) esNext) (esSeq (esAsg (evBin (gAdd false) (evVar 7) (evCall r__law_take (eaCons (evVar 1) (eaCons (evC (.int 6)) eaNil)))) (egName 16)) (esSeq (esIf (etV (evBin (gNe) (evCall r_first_not_above (eaCons (evVar 6) (eaCons (evVar 7) (eaCons (evVar 16) eaNil)))) (evCall r__law_first (eaCons (evVar 2) (eaCons (evVar 4) (eaCons (evVar 7) (eaCons (evVar 16) (eaCons (evC (.str (PySem.Str.ofString "above"))) eaNil)))))))) (esSeq (esRet (evC (.bl false))) esNext) esNext) (esSeq (esAsg (evCall r__law_first (eaCons (evVar 2) (eaCons (evVar 4) (eaCons (evVar 7) (eaCons (evVar 16) (eaCons (evC (.str (PySem.Str.ofString "0"))) eaNil)))))) (egName 17)) (esSeq (esAsg (evVar 16) (egName 18)) (esSeq (esIf (etV (evBin (gNotN) (evVar 17) (evC .non))) (esSeq (esAsg (evBin (gMinus) (evBin (gAdd false) (evVar 7) (evVar 17)) (evC (.int 1))) (egName 18)) esNext) esNext) (esSeq (esIf (etV (evBin (gNe) (evCall r_last_alive (eaCons (evVar 6) (eaCons (evVar 7) (eaCons (evVar 16) eaNil)))) (evVar 18))) (esSeq (esRet (evC (.bl false))) esNext) esNext) (esSeq (esIf (etNot (etV (evCall r__law_dead_right (eaCons (evVar 6) (eaCons (evVar 2) (eaCons (evVar 4) (eaCons (evVar 16) eaNil))))))) (esSeq (esRet (evC (.bl false))) esNext) esNext) (esSeq (esRet (evCall r__law_changes_right (eaCons (evVar 1) (eaCons (evVar 6) (eaCons (evVar 2) (eaCons (evVar 4) eaNil)))))) esNext))))))))))))))))))))))
def x_lawD : Es := (esSeq (esAsg (evBin (gAdd false) (evVar 7) (evCall r__law_take (eaCons (evVar 1) (eaCons (evC (.int 4)) eaNil)))) (egName 15)) (esSeq (esIf (etNot (etV (evCall r__law_words_right (eaCons (evVar 6) (eaCons (evVar 2) (eaCons (evVar 4) (eaCons (evVar 7) (eaCons (evVar 15) (eaCons (evLst false (eaCons (evCall r__law_word (eaCons (evVar 1) (eaCons (evC (.int 6)) eaNil))) (eaCons (evCall r__law_word (eaCons (evVar 1) (eaCons (evC (.int 5)) eaNil))) eaNil))) eaNil))))))))) (esSeq (esRet (evC (.bl false))) esNext) esNext) (esSeq (esAsg (evBin (gAdd false) (evVar 7) (evCall r__law_take (eaCons (evVar 1) (eaCons (evC (.int 6)) eaNil)))) (egName 16)) (esSeq (esIf (etV (evBin (gNe) (evCall r_first_not_above (eaCons (evVar 6) (eaCons (evVar 7) (eaCons (evVar 16) eaNil)))) (evCall r__law_first (eaCons (evVar 2) (eaCons (evVar 4) (eaCons (evVar 7) (eaCons (evVar 16) (eaCons (evC (.str (PySem.Str.ofString "above"))) eaNil)))))))) (esSeq (esRet (evC (.bl false))) esNext) esNext) (esSeq (esAsg (evCall r__law_first (eaCons (evVar 2) (eaCons (evVar 4) (eaCons (evVar 7) (eaCons (evVar 16) (eaCons (evC (.str (PySem.Str.ofString "0"))) eaNil)))))) (egName 17)) (esSeq (esAsg (evVar 16) (egName 18)) (esSeq (esIf (etV (evBin (gNotN) (evVar 17) (evC .non))) (esSeq (esAsg (evBin (gMinus) (evBin (gAdd false) (evVar 7) (evVar 17)) (evC (.int 1))) (egName 18)) esNext) esNext) (esSeq (esIf (etV (evBin (gNe) (evCall r_last_alive (eaCons (evVar 6) (eaCons (evVar 7) (eaCons (evVar 16) eaNil)))) (evVar 18))) (esSeq (esRet (evC (.bl false))) esNext) esNext) (esSeq (esIf (etNot (etV (evCall r__law_dead_right (eaCons (evVar 6) (eaCons (evVar 2) (eaCons (evVar 4) (eaCons (evVar 16) eaNil))))))) (esSeq (esRet (evC (.bl false))) esNext) esNext) (esSeq (esRet (evCall r__law_changes_right (eaCons (evVar 1) (eaCons (evVar 6) (eaCons (evVar 2) (eaCons (evVar 4) eaNil)))))) esNext))))))))))
structure St (S : Hs) (ps : List (Int × Int)) : Prop where
  d : ∃ l, S[0]? = some (some (drw l))
  p : PsW S (.ref 1) ps
theorem St.keep {S S' : Hs} {ps : List (Int × Int)} (h : St S ps) (k : Keep S S') : St S' ps := by
  obtain ⟨l, e⟩ := h.d
  exact ⟨⟨l, k.at_ e⟩, k.ps h.p⟩
theorem St.take {S : Hs} {ps : List (Int × Int)} (h : St S ps) {m : Nat} (hm : 0 < m) : ∃ v S', v < m ∧ callV r__law_take [.ref 0, wI (m : Nat)] S = .ok (wI (v : Nat)) S' ∧ St S' ps := by
  obtain ⟨l, e⟩ := h.d
  obtain ⟨v, l', hv, e2⟩ := v_take e hm
  exact ⟨v, _, hv, e2, ⟨⟨l', draws_get e⟩, ps_set h.p (by decide)⟩⟩
theorem St.word {S : Hs} {ps : List (Int × Int)} (h : St S ps) {m : Nat} (hm : m ≤ 100) : ∃ w S', w.length ≤ m ∧ callV r__law_word [.ref 0, wI (m : Nat)] S = .ok (.val (.str (wd w))) S' ∧ St S' ps := by
  obtain ⟨l, e⟩ := h.d
  obtain ⟨w, l', hv, e2⟩ := v_word e hm
  exact ⟨w, _, hv, e2, ⟨⟨l', draws_get e⟩, ps_set h.p (by decide)⟩⟩
/-- what is known of the pairs and the tail that are drawn -/
structure Prm (ps : List (Int × Int)) (tl : Int × Int) : Prop where
  q : ∀ k, 0 ≤ (atP ps tl k).1
  t : 0 ≤ tl.1
  l : ps.length ≤ 900
  b : Bd (atP ps tl)
def RT : RS → Prop := fun r => ∃ S', r = .rt (.val (.bl true)) S'
theorem law_D {S : Hs} {ps : List (Int × Int)} {tl : Int × Int} (pr : Prm ps tl) (st : St S ps) (s : Nat) (hs : s ≤ 5) (x0 x3 x5 x8 x9 x10 x11 x12 x13 x14 x15 x16 x17 x18 x19 : Option W) :
    Out PF RT (x_lawD [x0, some (.ref 0), some (.ref 1), x3, some (.val (prD tl)), x5, some (.val (numD (trim ps tl) tl)), some (wI (s : Nat)), x8, x9, x10, x11, x12, x13, x14, x15, x16, x17, x18, x19] S) := by
  have ha : atP (trim ps tl) tl = atP ps tl := atP_trim' ps tl
  have b2 : Bd (atP (trim ps tl) tl) := by rw [ha]; exact pr.b
  unfold x_lawD
  obtain ⟨v, S1, hv, e1, st1⟩ := st.take (m := 4) (by omega)
  refine o_asg (x := wI ((s + v : Nat) : Int)) (S1 := S1) (e_bin (x := wI (s : Nat)) (y := wI (v : Nat)) (S1 := S) (S2 := S1) rfl (e_cb (ws := [.ref 0, wI 4]) (S1 := S) rfl e1) rfl) ?_
  obtain ⟨w1, S2, hw1, e2, st2⟩ := st1.word (m := 6) (by omega)
  obtain ⟨w2, S3, hw2, e3, st3⟩ := st2.word (m := 5) (by omega)
  refine o_pass (S1 := S3) (t_not (c := true) (t_v (e_cb (ws := [.val (numD (trim ps tl) tl), .ref 1, .val (prD tl), wI (s : Nat), wI ((s + v : Nat) : Int), .val (.lst [.str (wd w1), .str (wd w2)])]) (S1 := S3) (a_cons (S1 := S1) rfl (a_cons (S1 := S1) rfl (a_cons (S1 := S1) rfl (a_cons (S1 := S1) rfl (a_cons (S1 := S1) rfl (a_cons (us := []) (S1 := S3) (e_cb (ws := [.val (.str (wd w1)), .val (.str (wd w2))]) (S1 := S3) (a_cons (S1 := S2) (e_cb (ws := [.ref 0, wI 6]) (S1 := S1) rfl e2) (a_cons (us := []) (S1 := S3) (e_cb (ws := [.ref 0, wI 5]) (S1 := S2) rfl e3) rfl)) rfl) rfl)))))) (v_words_right st3.p ha pr.b s (s + v) (by omega) (by omega) w1 w2 hw1 (by omega))))) ?_
  obtain ⟨k, S4, hk, e4, st4⟩ := st3.take (m := 6) (by omega)
  refine o_asg (x := wI ((s + k : Nat) : Int)) (S1 := S4) (e_bin (x := wI (s : Nat)) (y := wI (k : Nat)) (S1 := S3) (S2 := S4) rfl (e_cb (ws := [.ref 0, wI 6]) (S1 := S3) rfl e4) rfl) ?_
  have f1 := v_first_not_above (trim ps tl) tl b2 s k (by omega) S4
  rw [ha, fUp_congr (atP ps tl) (p := fun g => decide (g ≤ 0)) (p' := fun g => decide (g = 0) || (true && decide (g < 0))) (fun g => by
    rw [Bool.true_and, Bool.eq_iff_iff]
    simp
    omega)] at f1
  have f2 := v_law_first st4.p pr.b s k (by omega) (PySem.Str.ofString "above") true (fun S => by kernel_rfl)
  refine o_pass (S1 := S4) (t_v (e_bin (S1 := S4) (S2 := S4) (e_cb (ws := [.val (numD (trim ps tl) tl), wI (s : Nat), wI ((s + k : Nat) : Int)]) (S1 := S4) rfl f1) (e_cb (ws := [.ref 1, .val (prD tl), wI (s : Nat), wI ((s + k : Nat) : Int), .val (.str (PySem.Str.ofString "above"))]) (S1 := S4) rfl f2) ?_)) ?_
  · refine (gNe_of (eq_opt _ _)).trans ?_
    rfl
  have f3 := v_law_first st4.p pr.b s k (by omega) (PySem.Str.ofString "0") false (fun S => by kernel_rfl)
  rw [fUp_congr (atP ps tl) (p := fun g => decide (g = 0) || (false && decide (g < 0))) (p' := fun g => decide (g = 0)) (fun g => by simp)] at f3
  refine o_asg (x := .val (optD (fUp (atP ps tl) (fun g => decide (g = 0)) s k))) (S1 := S4) (e_cb (ws := [.ref 1, .val (prD tl), wI (s : Nat), wI ((s + k : Nat) : Int), .val (.str (PySem.Str.ofString "0"))]) (S1 := S4) rfl f3) ?_
  refine o_asg (x := wI ((s + k : Nat) : Int)) (S1 := S4) rfl ?_
  have f4 := v_last_alive (trim ps tl) tl b2 s k (by omega) S4
  rw [ha] at f4
  -- the last two looks
  have fin : ∀ (x17 : W) (al : Int), callV r_last_alive [.val (numD (trim ps tl) tl), wI (s : Nat), wI ((s + k : Nat) : Int)] S4 = .ok (wI al) S4 →
      Out PF RT ((esSeq (esIf (etV (evBin (gNe) (evCall r_last_alive (eaCons (evVar 6) (eaCons (evVar 7) (eaCons (evVar 16) eaNil)))) (evVar 18))) (esSeq (esRet (evC (.bl false))) esNext) esNext) (esSeq (esIf (etNot (etV (evCall r__law_dead_right (eaCons (evVar 6) (eaCons (evVar 2) (eaCons (evVar 4) (eaCons (evVar 16) eaNil))))))) (esSeq (esRet (evC (.bl false))) esNext) esNext) (esSeq (esRet (evCall r__law_changes_right (eaCons (evVar 1) (eaCons (evVar 6) (eaCons (evVar 2) (eaCons (evVar 4) eaNil)))))) esNext)))
        [x0, some (.ref 0), some (.ref 1), x3, some (.val (prD tl)), x5, some (.val (numD (trim ps tl) tl)), some (wI (s : Nat)), x8, x9, x10, x11, x12, x13, x14, some (wI ((s + v : Nat) : Int)), some (wI ((s + k : Nat) : Int)), some x17, some (wI al), x19] S4) := fun x17 al hal => by
    refine o_pass (S1 := S4) (t_v (e_bin (x := wI al) (y := wI al) (S1 := S4) (S2 := S4) (e_cb (ws := [.val (numD (trim ps tl) tl), wI (s : Nat), wI ((s + k : Nat) : Int)]) (S1 := S4) rfl hal) rfl ?_)) ?_
    · rw [gNe_int]; simp
    refine o_pass (S1 := S4) (t_not (c := true) (t_v (e_cb (ws := [.val (numD (trim ps tl) tl), .ref 1, .val (prD tl), wI ((s + k : Nat) : Int)]) (S1 := S4) rfl (v_dead_right st4.p ha pr.b (s + k) (by omega))))) ?_
    obtain ⟨l, hd⟩ := st4.d
    obtain ⟨S5, e5, _⟩ := v_changes_right hd st4.p pr.q pr.t pr.l
    exact o_ret (x := .val (.bl true)) (S1 := S5) (e_cb (ws := [.ref 0, .val (numD (trim ps tl) tl), .ref 1, .val (prD tl)]) (S1 := S4) rfl e5) ⟨S5, rfl⟩
  cases hf : fUp (atP ps tl) (fun g => decide (g = 0)) s k with
  | none =>
    rw [hf] at f4
    exact o_ifF (S1 := S4) (t_v (e_bin (x := .val .non) (y := .val .non) (S1 := S4) (S2 := S4) rfl rfl rfl)) (o_next (fin _ _ f4))
  | some n =>
    rw [hf] at f4
    refine o_ifT (S1 := S4) (t_v (e_bin (x := wI (n : Nat)) (y := .val .non) (S1 := S4) (S2 := S4) rfl rfl rfl)) ?_
    exact o_asg (x := wI ((s : Int) + (n : Int) - 1)) (S1 := S4) (e_bin (x := wI ((s : Int) + (n : Int))) (y := wI 1) (S1 := S4) (S2 := S4) (e_bin (x := wI (s : Nat)) (y := wI (n : Nat)) (S1 := S4) (S2 := S4) rfl rfl rfl) rfl rfl) (o_next (fin _ _ f4))
end HT

set_option maxRecDepth 100000
set_option linter.all false
set_option Elab.async false
/-! A18: the law's gains. -/
namespace HT
open PySem G
def rowL (a : Nat → Int × Int) (s n : Nat) : List G.D := (List.range n).map fun i => G.D.int (gnA a s i)
theorem rowL_at (a : Nat → Int × Int) (s n i : Nat) (h : i < n) : ((rowL a s n).map W.val)[i]? = some (wI (gnA a s i)) := by
  unfold rowL
  rw [List.map_map, List.getElem?_map, List.getElem?_range h]; rfl
theorem cut_drop {α : Type} (xs : List α) (n : Nat) : cutW xs (some (n : Int)) none = xs.drop n := by
  unfold cutW
  rw [HT.sIx_none, HT.sIx_nat]
  by_cases q : n ≤ xs.length
  · rw [Nat.min_eq_left q, List.take_of_length_le (by simp)]
  · rw [Nat.min_eq_right (by omega), List.drop_eq_nil_of_le (Nat.le_refl _), List.drop_eq_nil_of_le (by omega)]; simp
theorem law_C {S : Hs} {ps : List (Int × Int)} {tl : Int × Int} (pr : Prm ps tl) (st : St S ps) (x0 x3 x5 : Option W) :
    Out PF RT (x_lawC [x0, some (.ref 0), some (.ref 1), x3, some (.val (prD tl)), x5, some (.val (numD (trim ps tl) tl)), none, none, none, none, none, none, none, none, none, none, none, none, none] S) := by
  have ha : atP (trim ps tl) tl = atP ps tl := atP_trim' ps tl
  have b2 : Bd (atP (trim ps tl) tl) := by rw [ha]; exact pr.b
  have gain : ∀ (s k : Nat) (S : Hs), s + k ≤ 1000 → callV r_Numbers_gain [.val (numD (trim ps tl) tl), wI (s : Nat), wI (k : Nat)] S = .ok (wI (gnA (atP ps tl) s k)) S := fun s k S h => by
    have z := v_gain (trim ps tl) tl b2 s k h S
    rw [ha] at z; exact z
  have swaps : ∀ (s k : Nat) (S : Hs), s + k ≤ 1000 → callV r_Numbers_swaps [.val (numD (trim ps tl) tl), wI (s : Nat), wI (k : Nat)] S = .ok (wI (swA (atP ps tl) s k)) S := fun s k S h => by
    have z := v_swaps (trim ps tl) tl b2 s k h S
    rw [ha] at z; exact z
  have gains : ∀ (s k : Nat) (S : Hs), s + k ≤ 60 → callV r_Numbers_gains [.val (numD (trim ps tl) tl), wI (s : Nat), wI (k : Nat)] S = .ok (wI (gsA (atP ps tl) s k)) S := fun s k S h => by
    have z := v_gains (trim ps tl) tl b2 s k h S
    rw [ha] at z; exact z
  unfold x_lawC
  obtain ⟨s, S1, hs, e1, st1⟩ := st.take (m := 6) (by omega)
  refine o_asg (x := wI (s : Nat)) (S1 := S1) (e_cb (ws := [.ref 0, wI 6]) (S1 := S) rfl e1) ?_
  obtain ⟨k, S2, hk, e2, st2⟩ := st1.take (m := 6) (by omega)
  refine o_asg (x := wI (k : Nat)) (S1 := S2) (e_cb (ws := [.ref 0, wI 6]) (S1 := S1) rfl e2) ?_
  obtain ⟨m, S3, hm, e3, st3⟩ := st2.take (m := 4) (by omega)
  refine o_asg (x := wI (m : Nat)) (S1 := S3) (e_cb (ws := [.ref 0, wI 4]) (S1 := S2) rfl e3) ?_
  -- the row of gains
  refine o_asg (x := .val (.lst (rowL (atP ps tl) s (k + m + 1)))) (S1 := S3) ?_ ?_
  · refine (e_lcr (k := k + m + 1) (S1 := S3) (g := fun i => wI (gnA (atP ps tl) s i)) (a_cons (us := []) (S1 := S3) (e_bin (x := wI ((k + m : Nat) : Int)) (y := wI 1) (S1 := S3) (S2 := S3) (e_bin (x := wI (k : Nat)) (y := wI (m : Nat)) (S1 := S3) (S2 := S3) rfl rfl rfl) rfl rfl) rfl) (by omega) fun i hi => ?_).trans ?_
    · exact e_me (S2 := S3) (ws := [wI (s : Nat), wI (i : Nat)]) rfl rfl rfl (gain s i S3 (by omega))
    · have e : ((List.range (k + m + 1)).map fun i => wI (gnA (atP ps tl) s i)) = (rowL (atP ps tl) s (k + m + 1)).map .val := by unfold rowL; rw [List.map_map]; rfl
      rw [e]
      exact mk_plain (by unfold rowL; simp; omega)
  have hlen : (rowL (atP ps tl) s (k + m + 1)).length = k + m + 1 := by unfold rowL; simp
  have hlook : ∀ S, look (.val (.lst (rowL (atP ps tl) s (k + m + 1)))) S = some (.l, (rowL (atP ps tl) s (k + m + 1)).map .val) := fun _ => rfl
  have row_ix : ∀ (i : Nat) (S : Hs), i < k + m + 1 → gIx (.val (.lst (rowL (atP ps tl) s (k + m + 1)))) (wI (i : Nat)) S = .ok (wI (gnA (atP ps tl) s i)) S := fun i S h => ix_look (hlook S) i (rowL_at _ _ _ _ h)
  -- each is the closed sum
  refine o_rng1 (k := k + m + 1) (fun i ρ S => S = S3 ∧ ∃ a, ρ = [x0, some (.ref 0), some (.ref 1), x3, some (.val (prD tl)), x5, some (.val (numD (trim ps tl) tl)), some (wI (s : Nat)), some (wI (k : Nat)), some (wI (m : Nat)), some (.val (.lst (rowL (atP ps tl) s (k + m + 1)))), a, none, none, none, none, none, none, none, none]) (S1 := S3) (a_cons (us := []) (e_cb (ws := [.val (.lst (rowL (atP ps tl) s (k + m + 1)))]) (S1 := S3) rfl (by rw [len_look (hlook _), List.length_map, hlen])) rfl) (by omega) ⟨rfl, none, rfl⟩ (fun i ρ S hi hI => ?_) (fun ρ S hI => ?_)
  · obtain ⟨rfl, a, rfl⟩ := hI
    refine o_pass (S1 := S) (t_orF (t_not (c := true) (t_v (e_cb (ws := [wI (gnA (atP ps tl) s i)]) (S1 := S) (a_cons (us := []) (e_bin (x := .val (.lst (rowL (atP ps tl) s (k + m + 1)))) (y := wI (i : Nat)) (S1 := S) (S2 := S) rfl rfl (row_ix i S hi)) rfl) (v_law_int ..)))) (t_v (e_bin (x := wI (gnA (atP ps tl) s i)) (y := wI (gnA (atP ps tl) s i)) (S1 := S) (S2 := S) (e_bin (x := .val (.lst (rowL (atP ps tl) s (k + m + 1)))) (y := wI (i : Nat)) (S1 := S) (S2 := S) rfl rfl (row_ix i S hi)) (e_cb (ws := [.ref 1, .val (prD tl), wI (s : Nat), wI (i : Nat)]) (S1 := S) rfl (v_law_sum st3.p pr.b s i (by omega))) ?_))) (o_next ⟨rfl, _, rfl⟩)
    rw [gNe_int]; simp
  · obtain ⟨rfl, a, rfl⟩ := hI
    refine o_asg (x := wI 1) (S1 := S) rfl ?_
    -- swaps
    refine o_rng1 (k := k + m) (fun i ρ S' => S' = S ∧ ∃ a, ρ = [x0, some (.ref 0), some (.ref 1), x3, some (.val (prD tl)), x5, some (.val (numD (trim ps tl) tl)), some (wI (s : Nat)), some (wI (k : Nat)), some (wI (m : Nat)), some (.val (.lst (rowL (atP ps tl) s (k + m + 1)))), a, some (wI (swA (atP ps tl) s i)), none, none, none, none, none, none, none]) (S1 := S) (a_cons (us := []) (S1 := S) (e_bin (x := wI (k : Nat)) (y := wI (m : Nat)) (S1 := S) (S2 := S) rfl rfl rfl) rfl) (by omega) ⟨rfl, _, rfl⟩ (fun i ρ S' hi hI => ?_) (fun ρ S' hI => ?_)
    · obtain ⟨rfl, a, rfl⟩ := hI
      refine o_pass (S1 := S') (t_v (e_bin (x := wI (swA (atP ps tl) s i)) (y := wI (swA (atP ps tl) s i)) (S1 := S') (S2 := S') (e_me (S2 := S') (ws := [wI (s : Nat), wI (i : Nat)]) rfl rfl rfl (swaps s i S' (by omega))) rfl ?_)) ?_
      · rw [gNe_int]; simp
      refine o_asg (x := wI (swA (atP ps tl) s (i + 1))) (S1 := S') (e_bin (x := wI (swA (atP ps tl) s i)) (y := wI (atP ps tl (s + i)).1) (S1 := S') (S2 := S') rfl (e_bin (x := .val (prD (atP ps tl (s + i)))) (y := wI 0) (S1 := S') (S2 := S') (e_cb (ws := [.ref 1, .val (prD tl), wI ((s + i : Nat) : Int)]) (S1 := S') (a_cons rfl (a_cons rfl (a_cons (us := []) (e_bin (x := wI (s : Nat)) (y := wI (i : Nat)) (S1 := S') (S2 := S') rfl rfl rfl) rfl))) (v_law_at st3.p tl (s + i))) rfl (ix0 ..)) (mul_ok (cm_of (sw_sz _ pr.b s i) (pr.b (s + i)).1 (by omega)))) (o_next ⟨rfl, _, rfl⟩)
    · obtain ⟨rfl, a, rfl⟩ := hI
      refine o_asg (x := wI 1) (S1 := S') rfl ?_
      -- the product of the gains
      have sl : ∀ ρ : G.Env, ρ[10]? = some (some (.val (.lst (rowL (atP ps tl) s (k + m + 1))))) → evSl false (evVar 10) (eoSome (evC (.int 1))) eoNone ρ S' = .ok (.val (.lst ((rowL (atP ps tl) s (k + m + 1)).drop 1))) S' := fun ρ hρ => by
        have v10 : evVar 10 ρ S' = .ok (.val (.lst (rowL (atP ps tl) s (k + m + 1)))) S' := by unfold evVar; rw [hρ]
        unfold evSl
        rw [v10]
        show gSl false (.val (.lst (rowL (atP ps tl) s (k + m + 1)))) (some ((1 : Nat) : Int)) none S' = _
        unfold gSl
        dsimp only
        rw [hlook]
        dsimp only
        rw [cut_drop, ← List.map_drop]
        exact mk_plain (by simp [hlen]; omega)
      have hl2 : ((rowL (atP ps tl) s (k + m + 1)).drop 1).length = k + m := by rw [List.length_drop, hlen]; omega
      have hm2 : (((rowL (atP ps tl) s (k + m + 1)).drop 1).map W.val).length = k + m := by rw [List.length_map, hl2]
      refine o_each (x := .val (.lst ((rowL (atP ps tl) s (k + m + 1)).drop 1))) (ws := ((rowL (atP ps tl) s (k + m + 1)).drop 1).map .val) (fun i ρ S => S = S' ∧ i ≤ k + m ∧ ∃ a, ρ = [x0, some (.ref 0), some (.ref 1), x3, some (.val (prD tl)), x5, some (.val (numD (trim ps tl) tl)), some (wI (s : Nat)), some (wI (k : Nat)), some (wI (m : Nat)), some (.val (.lst (rowL (atP ps tl) s (k + m + 1)))), _, some (wI (swA (atP ps tl) s (k + m))), some (wI (gsA (atP ps tl) s i)), a, none, none, none, none, none]) (S1 := S') (ei_seq (kd := .l) (sl _ rfl) rfl) ⟨rfl, Nat.zero_le _, none, rfl⟩ (fun i ρ S _ => ⟨.l, rfl⟩) (fun i w ρ S e hI => ?_) (fun ρ S hI => ?_)
      · obtain ⟨rfl, hi, c, rfl⟩ := hI
        have hi2 : i < k + m := by
          rcases Nat.lt_or_ge i (k + m) with z | z
          · exact z
          · rw [List.getElem?_eq_none (by rw [hm2]; exact z)] at e; cases e
        have hw : w = wI (gnA (atP ps tl) s (i + 1)) := by
          rw [List.map_drop, List.getElem?_drop, rowL_at _ _ _ _ (by omega), Nat.add_comm 1 i] at e
          exact (Option.some.inj e).symm
        subst hw
        have hmm : i * (41 + 42 * i) ≤ 60 * (41 + 42 * 60) := Nat.mul_le_mul (by omega) (by omega)
        exact o_asg (x := wI (gsA (atP ps tl) s (i + 1))) (S1 := S) (e_bin (x := wI (gsA (atP ps tl) s i)) (y := wI (gnA (atP ps tl) s (i + 1))) (S1 := S) (S2 := S) rfl rfl (mul_ok (cm_of (gs_sz _ pr.b s i) (gn_sz _ pr.b s (i + 1)) (by omega)))) (o_next ⟨rfl, by omega, _, rfl⟩)
      · obtain ⟨rfl, hi, c, rfl⟩ := hI
        rw [hm2]
        refine o_pass (S1 := S) (t_v (e_bin (x := wI (gsA (atP ps tl) s (k + m))) (y := wI (gsA (atP ps tl) s (k + m))) (S1 := S) (S2 := S) (e_me (S2 := S) (ws := [wI (s : Nat), wI ((k + m : Nat) : Int)]) rfl rfl (a_cons rfl (a_cons (us := []) (e_bin (x := wI (k : Nat)) (y := wI (m : Nat)) (S1 := S) (S2 := S) rfl rfl rfl) rfl)) (gains s (k + m) S (by omega))) rfl ?_)) ?_
        · rw [gNe_int]; simp
        -- the gain of steps joined
        refine o_pass (S1 := S) (t_v (e_bin (x := wI (gnA (atP ps tl) s (k + m))) (y := wI (swA (atP ps tl) (s + k) m * gnA (atP ps tl) s k + gnA (atP ps tl) (s + k) m)) (S1 := S) (S2 := S) (e_bin (x := .val (.lst (rowL (atP ps tl) s (k + m + 1)))) (y := wI ((k + m : Nat) : Int)) (S1 := S) (S2 := S) rfl (e_bin (x := wI (k : Nat)) (y := wI (m : Nat)) (S1 := S) (S2 := S) rfl rfl rfl) (row_ix (k + m) S (by omega))) (e_bin (x := wI (swA (atP ps tl) (s + k) m * gnA (atP ps tl) s k)) (y := wI (gnA (atP ps tl) (s + k) m)) (S1 := S) (S2 := S) (e_bin (x := wI (swA (atP ps tl) (s + k) m)) (y := wI (gnA (atP ps tl) s k)) (S1 := S) (S2 := S) (e_me (S2 := S) (ws := [wI ((s + k : Nat) : Int), wI (m : Nat)]) rfl rfl (a_cons (e_bin (x := wI (s : Nat)) (y := wI (k : Nat)) (S1 := S) (S2 := S) rfl rfl rfl) rfl) (swaps (s + k) m S (by omega))) (e_bin (x := .val (.lst (rowL (atP ps tl) s (k + m + 1)))) (y := wI (k : Nat)) (S1 := S) (S2 := S) rfl rfl (row_ix k S (by omega))) (mul_ok (cm_of (sw_sz _ pr.b (s + k) m) (gn_sz _ pr.b s k) (by omega)))) (e_me (S2 := S) (ws := [wI ((s + k : Nat) : Int), wI (m : Nat)]) rfl rfl (a_cons (e_bin (x := wI (s : Nat)) (y := wI (k : Nat)) (S1 := S) (S2 := S) rfl rfl rfl) rfl) (gain (s + k) m S (by omega))) rfl) ?_)) ?_
        · rw [gNe_int, gn_split]; simp
        -- the first step
        refine o_if (c := decide ((0 : Int) < (k : Int))) (S1 := S) (t_v (e_bin (x := wI (k : Nat)) (y := wI 0) (S1 := S) (S2 := S) rfl rfl rfl)) (fun hc => ?_) (fun hc => ?_)
        · have hc := of_decide_eq_true hc
          obtain ⟨n, rfl⟩ : ∃ n, k = n + 1 := ⟨k - 1, by omega⟩
          have e5 : ((n + 1 : Nat) : Int) - 1 = (n : Int) := by omega
          have kk : ∀ {ρ : G.Env}, ρ[8]? = some (some (wI ((n + 1 : Nat) : Int))) → evBin (gMinus) (evVar 8) (evC (.int 1)) ρ S = .ok (wI (n : Nat)) S := fun h => by
            have v8 : ∀ ρ : G.Env, ρ[8]? = some (some (wI ((n + 1 : Nat) : Int))) → evVar 8 ρ S = .ok (wI ((n + 1 : Nat) : Int)) S := fun ρ h => by unfold evVar; rw [h]
            refine (e_bin (x := wI ((n + 1 : Nat) : Int)) (y := wI 1) (S1 := S) (S2 := S) (v8 _ h) rfl rfl).trans ?_
            rw [min_int, e5]
          refine o_asg (x := wI ((atP ps tl s).2 * swA (atP ps tl) (s + 1) n)) (S1 := S) (e_bin (x := wI (atP ps tl s).2) (y := wI (swA (atP ps tl) (s + 1) n)) (S1 := S) (S2 := S) (e_bin (x := .val (prD (atP ps tl s))) (y := wI 1) (S1 := S) (S2 := S) (e_cb (ws := [.ref 1, .val (prD tl), wI (s : Nat)]) (S1 := S) rfl (v_law_at st3.p tl s)) rfl (ix1 ..)) (e_me (S2 := S) (ws := [wI ((s + 1 : Nat) : Int), wI (n : Nat)]) rfl rfl (a_cons (e_bin (x := wI (s : Nat)) (y := wI 1) (S1 := S) (S2 := S) rfl rfl rfl) (a_cons (us := []) (kk rfl) rfl)) (swaps (s + 1) n S (by omega))) (mul_ok (cm_of (pr.b s).2 (sw_sz _ pr.b (s + 1) n) (by omega)))) ?_
          refine o_pass (S1 := S) (t_v (e_bin (x := wI (gnA (atP ps tl) s (n + 1) - gnA (atP ps tl) (s + 1) n)) (y := wI ((atP ps tl s).2 * swA (atP ps tl) (s + 1) n)) (S1 := S) (S2 := S) (e_bin (x := wI (gnA (atP ps tl) s (n + 1))) (y := wI (gnA (atP ps tl) (s + 1) n)) (S1 := S) (S2 := S) (e_bin (x := .val (.lst (rowL (atP ps tl) s (n + 1 + m + 1)))) (y := wI ((n + 1 : Nat) : Int)) (S1 := S) (S2 := S) rfl rfl (row_ix (n + 1) S (by omega))) (e_me (S2 := S) (ws := [wI ((s + 1 : Nat) : Int), wI (n : Nat)]) rfl rfl (a_cons (e_bin (x := wI (s : Nat)) (y := wI 1) (S1 := S) (S2 := S) rfl rfl rfl) (a_cons (us := []) (kk rfl) rfl)) (gain (s + 1) n S (by omega))) rfl) rfl ?_)) (o_next ?_)
          · rw [gNe_int, gn_first]; simp
          · exact law_D pr st3 s (by omega) _ _ _ _ _ _ _ _ _ _ _ _ _ _ _
        · exact o_next (law_D pr st3 s (by omega) _ _ _ _ _ _ _ _ _ _ _ _ _ _ _)
end HT

set_option maxRecDepth 100000
set_option linter.all false
set_option Elab.async false
/-! A19: the law says True of every script. -/
namespace HT
open PySem G
theorem law_B {S : Hs} {ps : List (Int × Int)} {tl : Int × Int} (pr : Prm ps tl) (st : St S ps) (x0 x3 : Option W) :
    Out PF RT (x_lawB [x0, some (.ref 0), some (.ref 1), x3, some (.val (prD tl)), none, none, none, none, none, none, none, none, none, none, none, none, none, none, none] S) := by
  have hqm : ∀ p, p ∈ ps → 0 ≤ p.1 := fun p hp => by
    obtain ⟨i, hi, e⟩ := List.getElem_of_mem hp
    have := pr.q i
    unfold atP at this
    rw [List.getElem?_eq_getElem hi, e] at this
    exact this
  have hl := pr.l
  have hlt := trim_short ps tl
  unfold x_lawB
  refine o_asg (x := .val (.lst (ps.map prD))) (S1 := S) (e_cb (ws := [.ref 1]) (S1 := S) rfl ?_) ?_
  · unfold gList
    dsimp only
    rw [show look (.ref 1) S = some (.l, (ps.map prD).map .val) from st.p]
    exact mk_plain (by simp; omega)
  have mk := v_makeP (S := S) (px := .lst (ps.map prD)) (tx := prD tl) (kd := .l) (rows := (ps.map prD).map .val) (ps := ps) (tl := tl) rfl (by decide) (RowsW.plain _ _) (by omega) (pair_t _ _) hqm pr.t
  refine o_asg (x := .val (numD (trim ps tl) tl)) (S1 := S) (e_mk (ws := [.val (.lst (ps.map prD))]) (us := [.val (prD tl)]) (S1 := S) (S2 := S) rfl rfl ⟨rfl, rfl⟩ mk) ?_
  obtain ⟨v, S1, hv, e1, st1⟩ := st.take (m := 4) (by omega)
  have same : evBin (gNe) (evVar 5) (evVar 2) [x0, some (.ref 0), some (.ref 1), x3, some (.val (prD tl)), some (.val (.lst (ps.map prD))), some (.val (numD (trim ps tl) tl)), none, none, none, none, none, none, none, none, none, none, none, none, none] S = .ok (.val (.bl false)) S := by
    refine e_bin (x := .val (.lst (ps.map prD))) (y := .ref 1) (S1 := S) (S2 := S) rfl rfl ?_
    rw [gNe_of (eq_lists (psW_lst S ps) st.p)]
    simp
  -- the refusals, now and then
  have ref : ∃ S2, St S2 ps ∧ etAnd (etV (evBin (gEq) (evCall r__law_take (eaCons (evVar 1) (eaCons (evC (.int 4)) eaNil))) (evC (.int 1)))) (etNot (etV (evCall r__law_refusals (eaCons (evVar 2) (eaCons (evVar 6) eaNil))))) [x0, some (.ref 0), some (.ref 1), x3, some (.val (prD tl)), some (.val (.lst (ps.map prD))), some (.val (numD (trim ps tl) tl)), none, none, none, none, none, none, none, none, none, none, none, none, none] S = .ok false S2 := by
    by_cases q : (v : Int) = 1
    · obtain ⟨S2, e2, k2⟩ := v_refusals (S := S1) (ps := ps) (tl := tl) (num := .val (numD (trim ps tl) tl)) ⟨_, rfl⟩ st1.p pr.q pr.l
      refine ⟨S2, st1.keep k2.keep, t_andT (S1 := S1) (t_v (e_bin (x := wI (v : Nat)) (y := wI 1) (S1 := S1) (S2 := S1) (e_cb (ws := [.ref 0, wI 4]) (S1 := S) rfl e1) rfl ?_)) (t_not (c := true) (t_v (e_cb (ws := [.ref 1, .val (numD (trim ps tl) tl)]) (S1 := S1) rfl e2)))⟩
      rw [gEq_int, decide_eq_true q]
    · refine ⟨S1, st1, t_andF (t_v (e_bin (x := wI (v : Nat)) (y := wI 1) (S1 := S1) (S2 := S1) (e_cb (ws := [.ref 0, wI 4]) (S1 := S) rfl e1) rfl ?_))⟩
      rw [gEq_int, decide_eq_false q]
  obtain ⟨S2, st2, e2⟩ := ref
  refine o_pass (S1 := S2) (t_orF (t_v same) e2) ?_
  obtain ⟨S3, e3, k3⟩ := v_kept_apart st2.p pr.q pr.t pr.l
  have st3 := st2.keep k3
  obtain ⟨S4, e4, k4⟩ := v_unlike_tails st3.p pr.q pr.t pr.l
  have st4 := st3.keep k4.keep
  have dr := v_doors_right (trim ps tl) tl (set_trim pr.q) pr.t (by omega) S2
  refine o_pass (S1 := S4) (t_orF (t_not (c := true) (t_v (e_cb (ws := [.val (numD (trim ps tl) tl)]) (S1 := S2) rfl dr))) (t_orF (t_not (c := true) (t_v (e_cb (ws := [.ref 1, .val (prD tl), .val (numD (trim ps tl) tl)]) (S1 := S2) rfl e3))) (t_not (c := true) (t_v (e_cb (ws := [.ref 1, .val (prD tl)]) (S1 := S3) rfl e4))))) ?_
  exact law_C pr st4 _ _ _
theorem prm_of {ps : List (Int × Int)} {tl : Int × Int} (hp : ∀ p, p ∈ ps → 0 ≤ p.1 ∧ p.1 ≤ 1000 ∧ -1000 ≤ p.2 ∧ p.2 ≤ 1000) (hl : ps.length ≤ 900) (t0 : 0 ≤ tl.1) (t1 : tl.1 ≤ 1000) (t2 : -1000 ≤ tl.2) (t3 : tl.2 ≤ 10 ^ 12) : Prm ps tl := by
  have e12 : (10 : Int) ^ 12 = 1000000000000 := by decide
  rw [e12] at t3
  have e41 : (2 : Nat) ^ 41 = 2199023255552 := by decide
  have at_ : ∀ k, atP ps tl k ∈ ps ∨ atP ps tl k = tl := fun k => by
    unfold atP
    cases e : ps[k]? with
    | none => exact .inr rfl
    | some p => exact .inl (List.mem_of_getElem? e)
  refine ⟨fun k => ?_, t0, hl, fun k => ?_⟩
  · rcases at_ k with z | z
    · exact (hp _ z).1
    · rw [z]; exact t0
  · unfold Sz
    rw [e41]
    rcases at_ k with z | z
    · have := hp _ z; omega
    · rw [z]; omega
theorem left_holds : ∀ ns : List Int, ns.length ≤ 63 → ∃ S, r_law [.val (.sq (ns.map G.D.int))] [] = .ok (.val (.bl true)) S := by
  intro ns hns
  have key : Out PF RT (x_law (startE 20 [.val (.sq (ns.map G.D.int))]) []) := by
    unfold x_law
    obtain ⟨l, e0⟩ := v_draws ns hns
    refine o_asg (x := .ref 0) (S1 := [some (drw l)]) (e_cb (ws := [.val (.sq (ns.map G.D.int))]) rfl e0) ?_
    refine o_asg (x := .ref 1) (S1 := [some (drw l), some (.lst [])]) rfl ?_
    have st0 : St [some (drw l), some (.lst [])] [] := ⟨⟨l, rfl⟩, by unfold PsW; rfl⟩
    obtain ⟨n, S1, hn, e1, st1⟩ := st0.take (m := 7) (by omega)
    refine o_rng1 (k := n) (fun i ρ S => (∃ ps, St S ps ∧ ps.length = i ∧ ∀ p, p ∈ ps → 0 ≤ p.1 ∧ p.1 ≤ 1000 ∧ -1000 ≤ p.2 ∧ p.2 ≤ 1000) ∧ ∃ a, ρ = [some (.val (.sq (ns.map G.D.int))), some (.ref 0), some (.ref 1), a, none, none, none, none, none, none, none, none, none, none, none, none, none, none, none, none]) (S1 := S1) (a_cons (us := []) (e_cb (ws := [.ref 0, wI 7]) rfl e1) rfl) (by omega) ⟨⟨[], st1, rfl, fun p hp => by cases hp⟩, none, rfl⟩ (fun i ρ S hi hI => ?_) (fun ρ S hI => ?_)
    · obtain ⟨⟨ps, st, hl, hp⟩, a, rfl⟩ := hI
      obtain ⟨q, S2, hq, e2, st2⟩ := st.take (m := 4) (by omega)
      obtain ⟨r, S3, hr, e3, st3⟩ := st2.take (m := 11) (by omega)
      let p : Int × Int := ((q : Int), (r : Int) - 4)
      have cell : ∃ ws, S3[1]? = some (some (.lst ws)) ∧ ws = (ps.map prD).map .val := by
        have z := st3.p
        unfold PsW look at z
        dsimp only at z
        split at z
        · rename_i ws e
          exact ⟨ws, e, (Prod.mk.inj (Option.some.inj z)).2⟩
        · cases z
      obtain ⟨ws, c1, c2⟩ := cell
      have hwl : ws.length = i := by rw [c2]; simp [hl]
      have l1 : 1 < S3.length := by
        rcases Nat.lt_or_ge 1 S3.length with z | z
        · exact z
        · rw [List.getElem?_eq_none z] at c1; cases c1
      have hisL : isL (.ref 1) S = true := by
        unfold isL
        rw [show look (.ref 1) S = some (.l, (ps.map prD).map .val) from st.p]
      refine o_drop (x := .val .non) (S1 := S3.set 1 (some (.lst (ws ++ [.val (prD p)])))) (e_bm (x := .ref 1) (ws := [.val (prD p)]) (S1 := S) (S2 := S3) rfl hisL (a_cons (us := []) (S1 := S3) (e_cb (ws := [wI (q : Nat), wI ((r : Int) - 4)]) (S1 := S3) (a_cons (S1 := S2) (e_cb (ws := [.ref 0, wI 4]) (S1 := S) rfl e2) (a_cons (us := []) (S1 := S3) (e_bin (x := wI (r : Nat)) (y := wI 4) (S1 := S3) (S2 := S3) (e_cb (ws := [.ref 0, wI 11]) (S1 := S2) rfl e3) rfl rfl) rfl)) rfl) rfl) (append_cell c1 (by omega))) (o_next ⟨⟨ps ++ [p], ?_, by rw [List.length_append, List.length_singleton, hl], fun p' hp' => ?_⟩, _, rfl⟩)
      · obtain ⟨l3, d3⟩ := st3.d
        refine ⟨⟨l3, by rw [List.getElem?_set_ne (by decide)]; exact d3⟩, ?_⟩
        unfold PsW
        rw [cell_look (ws := ws ++ [.val (prD p)]) (by rw [List.getElem?_set_self l1]), c2, List.map_append, List.map_append]
        rfl
      · rcases List.mem_append.mp hp' with z | z
        · exact hp p' z
        · rw [List.mem_singleton.mp z]
          show 0 ≤ (q : Int) ∧ (q : Int) ≤ 1000 ∧ -1000 ≤ (r : Int) - 4 ∧ (r : Int) - 4 ≤ 1000
          omega
    · obtain ⟨⟨ps, st, hl, hp⟩, a, rfl⟩ := hI
      obtain ⟨v, S2, hv, e2, st2⟩ := st.take (m := 4) (by omega)
      obtain ⟨w, S3, hw, e3, st3⟩ := st2.take (m := 5) (by omega)
      obtain ⟨u, S4, hu, e4, st4⟩ := st3.take (m := 12) (by omega)
      have pick : ∃ q : Int, [wI 1, wI 1, wI 0, wI 2][v]? = some (wI q) ∧ 0 ≤ q ∧ q ≤ 2 := by
        have : v = 0 ∨ v = 1 ∨ v = 2 ∨ v = 3 := by omega
        rcases this with rfl | rfl | rfl | rfl
        · exact ⟨1, rfl, by decide, by decide⟩
        · exact ⟨1, rfl, by decide, by decide⟩
        · exact ⟨0, rfl, by decide, by decide⟩
        · exact ⟨2, rfl, by decide, by decide⟩
      obtain ⟨q, hq, q0, q2⟩ := pick
      have e12 : (10 : Int) ^ 12 = 1000000000000 := by decide
      refine o_asg (x := .val (prD (q, (w : Int) - 1))) (S1 := S3) (e_cb (ws := [wI q, wI ((w : Int) - 1)]) (S1 := S3) (a_cons (S1 := S2) (e_bin (x := .val (.lst [.int 1, .int 1, .int 0, .int 2])) (y := wI (v : Nat)) (S1 := S) (S2 := S2) rfl (e_cb (ws := [.ref 0, wI 4]) (S1 := S) rfl e2) (ix_look (kd := .l) (ws := [wI 1, wI 1, wI 0, wI 2]) rfl v hq)) (a_cons (us := []) (S1 := S3) (e_bin (x := wI (w : Nat)) (y := wI 1) (S1 := S3) (S2 := S3) (e_cb (ws := [.ref 0, wI 5]) (S1 := S2) rfl e3) rfl rfl) rfl)) rfl) ?_
      refine o_if (c := decide ((u : Int) = 5)) (S1 := S4) (t_v (e_bin (x := wI (u : Nat)) (y := wI 5) (S1 := S4) (S2 := S4) (e_cb (ws := [.ref 0, wI 12]) (S1 := S3) rfl e4) rfl (gEq_int ..))) (fun hc => ?_) (fun hc => ?_)
      · refine o_asg (x := .val (prD (1, 10 ^ 12))) (S1 := S4) (e_cb (ws := [wI 1, wI (10 ^ 12)]) (S1 := S4) (a_cons (S1 := S4) rfl (a_cons (us := []) (S1 := S4) (e_bin (x := wI 10) (y := wI 12) (S1 := S4) (S2 := S4) rfl rfl (pow12 _)) rfl)) rfl) (o_next ?_)
        exact law_B (prm_of hp (by omega) (by decide) (by decide) (by decide) (by decide)) st4 _ _
      · exact o_next (law_B (prm_of hp (by omega) q0 (show q ≤ 1000 by omega) (show -1000 ≤ (w : Int) - 1 by omega) (show (w : Int) - 1 ≤ 10 ^ 12 by rw [e12]; omega)) st4 _ _)
  have e0 : r_law [.val (.sq (ns.map G.D.int))] [] = (x_law (startE 20 [.val (.sq (ns.map G.D.int))]) []).toR := rfl
  cases e : x_law (startE 20 [.val (.sq (ns.map G.D.int))]) [] with
  | rt x S' =>
    rw [e] at key
    obtain ⟨S2, q⟩ := key.o
    cases q
    exact ⟨S', by rw [e0, e]; rfl⟩
  | nx ρ S' => rw [e] at key; exact key.o.elim
  | exc c fs ρ S' => rw [e] at key; obtain ⟨S2, q⟩ := key.o; cases q
  | ct ρ S' => rw [e] at key; exact key.o.elim
  | bk ρ S' => rw [e] at key; exact key.o.elim
  | no => rw [e] at key; exact key.o.elim
end HT

set_option Elab.async false
set_option linter.all false
set_option maxRecDepth 100000
set_option maxHeartbeats 0
namespace HT
open PySem PySem.Spec PyProof.Rows L2 G
/-- what is left: the law's evaluator says True of every script -/
def Left : Prop := ∀ ns : List Int, ns.length ≤ 63 → ∃ S, r_law [.val (.sq (ns.map G.D.int))] [] = .ok (.val (.bl true)) S
theorem ints_rel {K : PySem.W.Frag} {H : Hp} : ∀ ns : List Int, RDs K H (ns.map G.D.int) (ns.map V.int)
  | [] => .nil
  | n :: ns => .cons (.int n) (ints_rel ns)
theorem sp_of (left : Left) {K : PySem.W.Frag} {H : Hp} {a : Addr} {ns : List Int} (hl : ns.length ≤ 63) (h : SqL K H a (ns.map V.int)) : spF K r_law [.ref a] H (fun v _ => v = .bl true) fun _ _ _ => False := by
  obtain ⟨S, e⟩ := left ns hl
  refine ⟨[.val (.sq (ns.map G.D.int))], [], H, mp0, ⟨fun _ _ z => z, (fun _ _ e => nomatch e), (fun _ _ e => nomatch e), (fun i c e => by simp at e), (fun _ _ _ e => nomatch e)⟩, .cons (show RW K H mp0 (.val (.sq (ns.map G.D.int))) (.ref a) from RD.sq h (ints_rel ns)) .nil, ?_⟩
  rw [e]
  intro A B n v xt rl rv
  cases rv
  rfl
theorem facts (left : Left) {P : Program} {w : World} {K : PySem.W.Frag} {h : Heap} {mg : Str → Option Value} {f : Addr} (X : K.In h) (G0 : h.Ns mainGlobals mg) (hfa : mg ("law" : Str) = some (.ref f)) (c : Says ts fn K) :
    ∃ fd : FuncData, (∀ (s : Shared) (v : Value), BindsTo s fd ⟨[v], []⟩ [("_law_script", v)]) ∧ ∀ base : Heap, K.In base → base.Ns mainGlobals mg → FnOk P w K mg base (L2.CX P w) 11 f fd ["_law_script"] (spF K r_law) := by
  have e := hfa.symm.trans (He.glo_ok X G0 (c.test 42 (t := (He.Fa.glo "law").ok) rfl))
  cases e
  obtain ⟨fd, _, B, _⟩ := (ok_law (P := P) (w := w) X G0 c).ex
  refine ⟨fd, B.2.1, fun base XB GB => ?_⟩
  obtain ⟨fd2, F2, B2, _⟩ := (ok_law (P := P) (w := w) XB GB c).ex
  obtain ⟨oc, od, osl, e1⟩ := B.2.2
  obtain ⟨oc2, od2, osl2, e2⟩ := B2.2.2
  rw [e1] at e2
  cases e2
  exact F2
/-- the end of the walk, for what may be let out in each world -/
theorem walk_w {l : PySem.W.OpenLaw} {n k : Nat} {q : Program} {loose : List Str} {XP : (Str → Option Value) → Heap → Prop} {YP : World → Heap → Prop} {d : DefRec} {Z : World → CXT} {x : Str} (hn : l.most = some n) (hz : n ≤ sizeLine) (hd0 : d.params.defaults = []) (hr : Room k callerA)
    (go : ∀ (w : World) (mg : Str → Option Value) (f : Addr) (h : Heap), YP w h → h.Ns mainGlobals mg → mg d.name = some (.ref f) → ∃ (K : PySem.W.Frag) (fd : FuncData) (sp : Sp), K.In h ∧ (∀ (s : Shared) (u : Value), BindsTo s fd ⟨[u], []⟩ [(x, u)]) ∧
      (∀ (H : Hp) (a : Addr) (ns : List Int), ns.length ≤ n → SqL K H a (ns.map V.int) → sp [.ref a] H (fun v _ => v = .bl true) fun _ _ _ => False) ∧ ∀ base : Heap, K.In base → base.Ns mainGlobals mg → FnOk l.prog w K mg base (Z w) k f fd [x] sp)
    (none : ∀ (w : World) (H : Hp) (s : Shared) (e : Value) (s' : Shared), Z w [] H s (fun _ _ _ => False) e s' → False) : PySem.W.WalkO q loose XP YP l.row.toRowW d [] (fun f vs => PySem.call f vs) := by
  refine Att.attach_call hn hd0 fun w s0 s1 mg mb f o pm cd doc a vs ns G Y ho hd hcd hmg hobj hi hlen hg => ?_
  obtain ⟨K, fd, sp, KX, bd, hsp, F⟩ := go w mg f _ Y G.T.g hmg
  exact law_call KX G.T.g G.T.b G.T.builtins G.T.nolimit hg hobj hi (Nat.le_trans hlen hz) hr F bd (fun H _ hS => hsp H a ns hlen hS) fun H e s' => none w H s1 e s'
end HT
open PySem PySem.W PySem.Calls PyProof.Rows
theorem holds_left (left : HT.Left) : PySem.Challenge.rw_upsanddowns_k09_gains.Holds := by
  w_on; o_law
  refine HandSHeadRun.head_any (r := OpenLaw.row PySem.Challenge.rw_upsanddowns_k09_gains) (q := view (OpenLaw.row PySem.Challenge.rw_upsanddowns_k09_gains).prog [47]) (H := HT.hk) (ob := HT.ob) (M := 4000) (loose := HT.names) (d := HandSHeadRun.topDef (OpenLaw.row PySem.Challenge.rw_upsanddowns_k09_gains).prog 47) (kwd := []) HT.ob_eq
    (by kernel_rfl) (fun s => by kernel_rfl) HT.run (by kernel_rfl) (by kernel_rfl) (by kernel_rfl) (by rfl) (by first | assumption | decide +kernel) (by decide +kernel) ⟨rfl, rfl, rfl, rfl, rfl, by decide +kernel⟩ ?hw ?hc
  case hw => w_witness2
  case hc =>
    refine HT.walk_w (l := PySem.Challenge.rw_upsanddowns_k09_gains) (n := 63) (k := 11) (x := "_law_script") (Z := fun w => L2.CX (PySem.Challenge.rw_upsanddowns_k09_gains).prog w) rfl (by decide) (by kernel_rfl) ⟨rfl, by decide, by decide⟩ ?go ?none
    case go =>
      intro w mg fa h Y GG hmg0
      obtain ⟨K, KX, c⟩ := Y
      have hmg : mg ("law" : PySem.Str) = some (.ref fa) := by
        have e : (HandSHeadRun.topDef (OpenLaw.row PySem.Challenge.rw_upsanddowns_k09_gains).prog 47).name = ("law" : PySem.Str) := by kernel_rfl
        rw [← e]
        exact hmg0
      obtain ⟨fd, bd, F⟩ := HT.facts left (P := (PySem.Challenge.rw_upsanddowns_k09_gains).prog) (w := w) KX GG hmg c
      exact ⟨K, fd, G.spF K HT.r_law, KX, bd, fun H a ns hl hS => HT.sp_of left hl hS, F⟩
    case none =>
      intro w H s e s' z
      obtain ⟨_, _, _, _, _, _, _, _, _, _, _, _, z⟩ := z
      exact z

theorem PySem.Challenge.cw_upsanddowns_k09_gains_holds : PySem.Challenge.rw_upsanddowns_k09_gains.Holds :=
  holds_left HT.left_holds
