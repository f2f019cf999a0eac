import PyProof.Rows.All
import Wide.All
import OpenK.AllK
import Wide.FinOn
import PyProof.P3In
import HandS.ForMost
import HandS.IsInst
import HandS.TupAny
import HandS.TupMul
import HandS.Flow
import HandS.Deep
import HandS.Zip
import PySem.Challenge.RW_noticeways_k01_notices_and_houses_recogn
set_option Elab.async false
set_option linter.all false
set_option maxRecDepth 100000
set_option maxHeartbeats 2000000
/-! data, stores, representation -/
namespace DW
open PySem PySem.Spec PyProof.Rows L2

/-- data: a value without addresses; ref n: the n-th object of the store; rol: a list that is only read; ty: a built-in type -/
inductive D where
  | non | bl (b : Bool) | int (i : Int) | str (x : Str) | tup (xs : List D) | rol (xs : List D) | ref (n : Nat) | ty (n : String)
inductive Ob where
  | lst (xs : List D)
abbrev Sto := List Ob
abbrev En := List (Option D)
abbrev KQ := D → Sto → Prop
abbrev KB := Bool → Sto → Prop
abbrev KL := List D → Sto → Prop
abbrev FSp := List D → Sto → KQ → Prop

/-- a list that nobody writes -/
def SqR (K : PySem.W.Frag) (H : Hp) (a : Addr) (xs : List V) : Prop :=
  (∃ o, H a = some (.frz o (.lst xs))) ∨ ∃ (o : Obj) (its : Array Value) (n : Nat), K.lookup a = some o ∧ o.cls = .type "list" ∧ o.dict = none ∧ o.data = .seq its n ∧ its.size ≤ sizeLine ∧ Vals xs its.toList
theorem SqR.l {K : PySem.W.Frag} {H : Hp} {a : Addr} {xs : List V} (h : SqR K H a xs) : SqL K H a xs := by
  rcases h with ⟨o, h⟩ | h
  · exact .inl (.inr ⟨o, h⟩)
  · exact .inr h

mutual
inductive Rep (K : PySem.W.Frag) (φ : List Addr) (H : Hp) : V → D → Prop
  | non : Rep K φ H .non .non
  | bl (b : Bool) : Rep K φ H (.bl b) (.bl b)
  | int (i : Int) : Rep K φ H (.int i) (.int i)
  | str (x : Str) : Rep K φ H (.str x) (.str x)
  | ty (n : String) : Rep K φ H (.ty n) (.ty n)
  | tup {a : Addr} {vs : List V} {ds : List D} : SqT K H a vs → RepL K φ H vs ds → Rep K φ H (.ref a) (.tup ds)
  | rol {a : Addr} {vs : List V} {ds : List D} : SqR K H a vs → RepL K φ H vs ds → Rep K φ H (.ref a) (.rol ds)
  | ref {a : Addr} {n : Nat} : φ[n]? = some a → Rep K φ H (.ref a) (.ref n)
inductive RepL (K : PySem.W.Frag) (φ : List Addr) (H : Hp) : List V → List D → Prop
  | nil : RepL K φ H [] []
  | cons {v : V} {vs : List V} {d : D} {ds : List D} : Rep K φ H v d → RepL K φ H vs ds → RepL K φ H (v :: vs) (d :: ds)
end

/-- what never changes has stayed -/
structure TupLe0 (H H' : Hp) : Prop where
  t : ∀ a xs, H a = some (.tup xs) → H' a = some (.tup xs)
  f : ∀ a o u, H a = some (.frz o u) → H' a = some (.frz o u)
/-- .. and the dicts, which nobody writes -/
structure TupLe (H H' : Hp) : Prop extends TupLe0 H H' where
  k : ∀ a (u : List (Key × V)), H a = some (.dK u) → H' a = some (.dK u)
theorem TupLe.refl (H : Hp) : TupLe H H := ⟨⟨fun _ _ h => h, fun _ _ _ h => h⟩, fun _ _ h => h⟩
theorem TupLe.trans {H H1 H2 : Hp} (a : TupLe H H1) (b : TupLe H1 H2) : TupLe H H2 := ⟨⟨fun x xs h => b.t x xs (a.t x xs h), fun x o u h => b.f x o u (a.f x o u h)⟩, fun x u h => b.k x u (a.k x u h)⟩
theorem TupLe.new {H : Hp} {p : Addr} {o : HO} (h : H p = none) : TupLe H (upd H p o) :=
  ⟨⟨fun a xs e => by rw [upd_ne (ne_of_none e h)]; exact e, fun a ob u e => by rw [upd_ne (ne_of_none e h)]; exact e⟩, fun a u e => by rw [upd_ne (ne_of_none e h)]; exact e⟩
theorem TupLe.mut {H : Hp} {p : Addr} {xs : List V} {o : HO} (h : H p = some (.lst xs)) : TupLe H (upd H p o) :=
  ⟨⟨fun a ys e => by rw [upd_ne (ne_of e h (by intro z; cases z))]; exact e, fun a ob u e => by rw [upd_ne (ne_of e h (by intro z; cases z))]; exact e⟩, fun a u e => by rw [upd_ne (ne_of e h (by intro z; cases z))]; exact e⟩
/-- a dict is filled -/
theorem TupLe0.fill {H : Hp} {p : Addr} {u : List (Key × V)} {o : HO} (h : H p = some (.dK u)) : TupLe0 H (upd H p o) :=
  ⟨fun a ys e => by rw [upd_ne (ne_of e h (by intro z; cases z))]; exact e, fun a ob u e => by rw [upd_ne (ne_of e h (by intro z; cases z))]; exact e⟩
theorem TupLe.fill {H H' : Hp} {p : Addr} {o o' : HO} (h : H p = none) (t : TupLe (upd H p o) H') : TupLe H (upd H' p o') := by
  have g := (TupLe.new (o := o) h).trans t
  refine ⟨⟨fun a xs e => ?_, fun a ob u e => ?_⟩, fun a u e => ?_⟩
  · rw [upd_ne (ne_of_none e h)]; exact g.t _ _ e
  · rw [upd_ne (ne_of_none e h)]; exact g.f _ _ _ e
  · rw [upd_ne (ne_of_none e h)]; exact g.k _ _ e
theorem TupLe0.sqT {K : PySem.W.Frag} {H H' : Hp} {a : Addr} {xs : List V} (l : TupLe0 H H') (h : SqT K H a xs) : SqT K H' a xs := by
  rcases h with (h | ⟨o, h⟩) | h
  · exact .inl (.inl (l.t _ _ h))
  · exact .inl (.inr ⟨o, l.f _ _ _ h⟩)
  · exact .inr h
theorem TupLe0.sqR {K : PySem.W.Frag} {H H' : Hp} {a : Addr} {xs : List V} (l : TupLe0 H H') (h : SqR K H a xs) : SqR K H' a xs := by
  rcases h with ⟨o, h⟩ | h
  · exact .inl ⟨o, l.f _ _ _ h⟩
  · exact .inr h

/-- φ grows at its end -/
def Le (φ φ' : List Addr) : Prop := ∀ (n : Nat) (a : Addr), φ[n]? = some a → φ'[n]? = some a
theorem Le.refl (φ : List Addr) : Le φ φ := fun _ _ h => h
theorem Le.trans {φ φ1 φ2 : List Addr} (a : Le φ φ1) (b : Le φ1 φ2) : Le φ φ2 := fun n x h => b n x (a n x h)
theorem Le.app (φ : List Addr) (xs : List Addr) : Le φ (φ ++ xs) := fun n a h => by
  have hl := (List.getElem?_eq_some_iff.mp h).1
  rw [List.getElem?_append_left hl]; exact h

theorem TupLe.sqT {K : PySem.W.Frag} {H H' : Hp} {a : Addr} {xs : List V} (l : TupLe H H') (h : SqT K H a xs) : SqT K H' a xs := l.toTupLe0.sqT h
theorem TupLe.sqR {K : PySem.W.Frag} {H H' : Hp} {a : Addr} {xs : List V} (l : TupLe H H') (h : SqR K H a xs) : SqR K H' a xs := l.toTupLe0.sqR h

section
variable {K : PySem.W.Frag} {φ φ' : List Addr} {H H' : Hp}
mutual
theorem Rep.mono0 (l : Le φ φ') (t : TupLe0 H H') : ∀ {v : V} {d : D}, Rep K φ H v d → Rep K φ' H' v d
  | _, _, .non => .non
  | _, _, .bl b => .bl b
  | _, _, .int i => .int i
  | _, _, .str x => .str x
  | _, _, .ty n => .ty n
  | _, _, .tup h r => .tup (t.sqT h) (RepL.mono0 l t r)
  | _, _, .rol h r => .rol (t.sqR h) (RepL.mono0 l t r)
  | _, _, .ref h => .ref (l _ _ h)
theorem RepL.mono0 (l : Le φ φ') (t : TupLe0 H H') : ∀ {vs : List V} {ds : List D}, RepL K φ H vs ds → RepL K φ' H' vs ds
  | _, _, .nil => .nil
  | _, _, .cons r rs => .cons (Rep.mono0 l t r) (RepL.mono0 l t rs)
end
theorem Rep.mono (l : Le φ φ') (t : TupLe H H') {v : V} {d : D} (r : Rep K φ H v d) : Rep K φ' H' v d := r.mono0 l t.toTupLe0
theorem RepL.mono (l : Le φ φ') (t : TupLe H H') {vs : List V} {ds : List D} (r : RepL K φ H vs ds) : RepL K φ' H' vs ds := r.mono0 l t.toTupLe0
theorem RepL.length : ∀ {vs : List V} {ds : List D}, RepL K φ H vs ds → vs.length = ds.length
  | _, _, .nil => rfl
  | _, _, .cons _ r => by rw [List.length_cons, List.length_cons, RepL.length r]
theorem RepL.app : ∀ {vs ws : List V} {ds es : List D}, RepL K φ H vs ds → RepL K φ H ws es → RepL K φ H (vs ++ ws) (ds ++ es)
  | _, _, _, _, .nil, s => s
  | _, _, _, _, .cons r t, s => .cons r (RepL.app t s)
theorem RepL.get : ∀ {vs : List V} {ds : List D} {i : Nat} {d : D}, RepL K φ H vs ds → ds[i]? = some d → ∃ v, vs[i]? = some v ∧ Rep K φ H v d
  | _, _, 0, _, .cons r _, e => by simp at e; subst e; exact ⟨_, rfl, r⟩
  | _, _, i + 1, _, .cons _ t, e => by
    obtain ⟨v, h1, h2⟩ := RepL.get (i := i) t (by simpa using e)
    exact ⟨v, by simpa using h1, h2⟩
  | _, _, _, _, .nil, e => by simp at e
theorem RepL.getV : ∀ {vs : List V} {ds : List D} {i : Nat} {v : V}, RepL K φ H vs ds → vs[i]? = some v → ∃ d, ds[i]? = some d ∧ Rep K φ H v d
  | _, _, 0, _, .cons r _, e => by simp at e; subst e; exact ⟨_, rfl, r⟩
  | _, _, i + 1, _, .cons _ t, e => by
    obtain ⟨v, h1, h2⟩ := RepL.getV (i := i) t (by simpa using e)
    exact ⟨v, by simpa using h1, h2⟩
  | _, _, _, _, .nil, e => by simp at e
theorem RepL.set : ∀ {vs : List V} {ds : List D} (i : Nat) {v : V} {d : D}, Rep K φ H v d → RepL K φ H vs ds → RepL K φ H (vs.set i v) (ds.set i d)
  | _, _, _, _, _, _, .nil => .nil
  | _, _, 0, _, _, r, .cons _ t => .cons r t
  | _, _, i + 1, _, _, r, .cons q t => .cons q (RepL.set i r t)
theorem RepL.take : ∀ {vs : List V} {ds : List D} (n : Nat), RepL K φ H vs ds → RepL K φ H (vs.take n) (ds.take n)
  | _, _, 0, _ => .nil
  | _, _, _ + 1, .nil => .nil
  | _, _, n + 1, .cons r t => .cons r (RepL.take n t)
theorem RepL.drop : ∀ {vs : List V} {ds : List D} (n : Nat), RepL K φ H vs ds → RepL K φ H (vs.drop n) (ds.drop n)
  | _, _, 0, r => r
  | _, _, _ + 1, .nil => .nil
  | _, _, n + 1, .cons _ t => RepL.drop n t
theorem RepL.rep {vs : List V} {ds : List D} (r : RepL K φ H vs ds) : ∀ k : Nat, RepL K φ H (List.replicate k vs).flatten (List.replicate k ds).flatten
  | 0 => .nil
  | k + 1 => by
    rw [List.replicate_succ, List.replicate_succ, List.flatten_cons, List.flatten_cons]
    exact r.app (RepL.rep r k)

/-- an object of the store, as it is tracked -/
def ObRel (K : PySem.W.Frag) (φ : List Addr) (H : Hp) : Ob → Option HO → Prop
  | .lst ds, o => ∃ vs, o = some (.lst vs) ∧ RepL K φ H vs ds
structure SRel (K : PySem.W.Frag) (φ : List Addr) (S : Sto) (H : Hp) : Prop where
  len : φ.length = S.length
  nd : φ.Nodup
  ob : ∀ (n : Nat) (a : Addr) (o : Ob), φ[n]? = some a → S[n]? = some o → ObRel K φ H o (H a)
theorem ObRel.there {o : Ob} {h : Option HO} (r : ObRel K φ H o h) : ∃ u, h = some u := by
  cases o with
  | lst ds => obtain ⟨vs, e, _⟩ := r; exact ⟨_, e⟩
theorem ObRel.mono {o : Ob} {h : Option HO} (l : Le φ φ') (t : TupLe H H') (r : ObRel K φ H o h) : ObRel K φ' H' o h := by
  cases o with
  | lst ds => obtain ⟨vs, e, q⟩ := r; exact ⟨vs, e, q.mono l t⟩
variable {S : Sto}
theorem SRel.at_ (s : SRel K φ S H) {n : Nat} {ds : List D} (h : S[n]? = some (.lst ds)) : ∃ a vs, φ[n]? = some a ∧ H a = some (.lst vs) ∧ RepL K φ H vs ds := by
  have hl := (List.getElem?_eq_some_iff.mp h).1
  have e : φ[n]? = some (φ[n]'(by rw [s.len]; exact hl)) := List.getElem?_eq_getElem _
  obtain ⟨vs, e1, r⟩ := s.ob n _ _ e h
  exact ⟨_, vs, e, e1, r⟩
theorem SRel.has (s : SRel K φ S H) {n : Nat} {a : Addr} (h : φ[n]? = some a) : ∃ u, H a = some u := by
  have hl := (List.getElem?_eq_some_iff.mp h).1
  have e : S[n]? = some (S[n]'(by rw [← s.len]; exact hl)) := List.getElem?_eq_getElem _
  exact (s.ob n a _ h e).there
theorem SRel.notin (s : SRel K φ S H) {p : Addr} (h : H p = none) : p ∉ φ := fun hp => by
  obtain ⟨n, hn⟩ := List.getElem?_of_mem hp
  obtain ⟨u, e⟩ := s.has hn
  rw [h] at e; cases e
/-- a dict that we don't track is filled -/
theorem SRel.fill (s : SRel K φ S H) {p : Addr} {u : List (Key × V)} {o : HO} (h : H p = some (.dK u)) : SRel K φ S (upd H p o) :=
  ⟨s.len, s.nd, fun n a ob e1 e2 => by
    have q := s.ob n a ob e1 e2
    cases ob with
    | lst ds =>
      obtain ⟨vs, e, r⟩ := q
      have ne : a ≠ p := fun z => by rw [z, h] at e; cases e
      rw [upd_ne ne]
      exact ⟨vs, e, r.mono0 (Le.refl φ) (TupLe0.fill h)⟩⟩
/-- a new object that we don't track -/
theorem SRel.new (s : SRel K φ S H) {p : Addr} {o : HO} (h : H p = none) : SRel K φ S (upd H p o) :=
  ⟨s.len, s.nd, fun n a ob e1 e2 => by
    have ne : a ≠ p := fun z => s.notin h (by rw [← z]; exact List.mem_of_getElem? e1)
    rw [upd_ne ne]
    exact (s.ob n a ob e1 e2).mono (Le.refl φ) (TupLe.new h)⟩
/-- a new list -/
theorem SRel.alloc (s : SRel K φ S H) {p : Addr} {vs : List V} {ds : List D} (h : H p = none) (r : RepL K φ H vs ds) : SRel K (φ ++ [p]) (S ++ [.lst ds]) (upd H p (.lst vs)) := by
  have hp := s.notin h
  refine ⟨by simp [s.len], ?_, fun n a ob e1 e2 => ?_⟩
  · rw [List.nodup_append]
    refine ⟨s.nd, by simp, fun x hx y hy => ?_⟩
    have : y = p := by simpa using hy
    rw [this]; exact fun z => hp (z ▸ hx)
  · by_cases hn : n < φ.length
    · rw [List.getElem?_append_left hn] at e1
      rw [List.getElem?_append_left (by rw [← s.len]; exact hn)] at e2
      have ne : a ≠ p := fun z => hp (by rw [← z]; exact List.mem_of_getElem? e1)
      rw [upd_ne ne]
      exact (s.ob n a ob e1 e2).mono (Le.app φ [p]) (TupLe.new h)
    · rw [List.getElem?_append_right (by omega)] at e1
      rw [List.getElem?_append_right (by rw [← s.len]; omega)] at e2
      have hn2 : n - φ.length = 0 := by
        have := (List.getElem?_eq_some_iff.mp e1).1
        simp at this; omega
      rw [hn2] at e1
      rw [← s.len, hn2] at e2
      simp at e1 e2
      subst e1 e2
      exact ⟨vs, upd_same, r.mono (Le.app φ [p]) (TupLe.new h)⟩
theorem SRel.idx (s : SRel K φ S H) {p : Addr} : (φ ++ [p])[S.length]? = some p := by
  rw [← s.len]; simp
/-- a list is written -/
theorem SRel.put (s : SRel K φ S H) {n : Nat} {a : Addr} {vs us : List V} {ds : List D} (h : φ[n]? = some a) (h1 : H a = some (.lst us)) (r : RepL K φ H vs ds) : SRel K φ (S.set n (.lst ds)) (upd H a (.lst vs)) := by
  refine ⟨by simp [s.len], s.nd, fun m b ob e1 e2 => ?_⟩
  have tl : TupLe H (upd H a (.lst vs)) := TupLe.mut h1
  by_cases hm : m = n
  · subst hm
    rw [h] at e1; cases e1
    have hl : m < S.length := by rw [← s.len]; exact (List.getElem?_eq_some_iff.mp h).1
    rw [List.getElem?_set_self hl] at e2
    cases e2
    exact ⟨vs, upd_same, r.mono (Le.refl φ) tl⟩
  · rw [List.getElem?_set_ne (Ne.symm hm)] at e2
    have ne : b ≠ a := fun z => by
      subst z
      obtain ⟨h1', e1'⟩ := List.getElem?_eq_some_iff.mp e1
      obtain ⟨h2', e2'⟩ := List.getElem?_eq_some_iff.mp h
      exact hm ((List.getElem_inj s.nd).mp (e1'.trans e2'.symm))
    rw [upd_ne ne]
    exact (s.ob m b ob e1 e2).mono (Le.refl φ) tl
end

/-! ### deep reading -/
def toPy : Nat → Sto → D → Option PyData
  | 0, _, _ => none
  | k + 1, S, d => match d with
    | .non => some .none
    | .bl b => some (.bool b)
    | .int i => some (.int i)
    | .str x => some (.str x)
    | .tup ds => (ds.mapM (toPy k S)).map .tuple
    | .rol ds => (ds.mapM (toPy k S)).map .list
    | .ref n => match S[n]? with
      | some (.lst ds) => (ds.mapM (toPy k S)).map .list
      | none => none
    | .ty _ => none
theorem mapM_nil' {α β : Type} {f : α → Option β} : ([] : List α).mapM f = some [] := rfl
theorem mapM_cons' {α β : Type} {f : α → Option β} {x : α} {xs : List α} {zs : List β} (h : (x :: xs).mapM f = some zs) : ∃ y ys, zs = y :: ys ∧ f x = some y ∧ xs.mapM f = some ys := by
  rw [List.mapM_cons] at h
  cases e : f x with
  | none => rw [e] at h; cases h
  | some y =>
    rw [e] at h
    cases e2 : xs.mapM f with
    | none => rw [e2] at h; cases h
    | some ys => rw [e2] at h; cases h; exact ⟨y, ys, rfl, rfl, rfl⟩
section
variable {K : PySem.W.Frag} {φ : List Addr} {H : Hp} {S : Sto}
theorem dpAll_of {k : Nat} (ih : ∀ (v : V) (d : D) (p : PyData), Rep K φ H v d → toPy k S d = some p → Dp K H v p) : ∀ {vs : List V} {ds : List D} {ps : List PyData}, RepL K φ H vs ds → ds.mapM (toPy k S) = some ps → DpAll K H vs ps
  | _, _, _, .nil, h => by cases h; exact .nil
  | _, _, _, .cons r t, h => by
    obtain ⟨y, ys, rfl, h1, h2⟩ := mapM_cons' h
    exact .cons (ih _ _ _ r h1) (dpAll_of ih t h2)
theorem dp_of (s : SRel K φ S H) : ∀ (k : Nat) (v : V) (d : D) (p : PyData), Rep K φ H v d → toPy k S d = some p → Dp K H v p
  | 0, _, _, _, _, h => by cases h
  | k + 1, v, d, p, r, h => by
    cases r with
    | non => cases h; exact .non
    | bl b => cases h; exact .bl b
    | int i => cases h; exact .int i
    | str x => cases h; exact .str x
    | ty n => cases h
    | @tup a vs ds hs rl =>
      simp only [toPy] at h
      cases e : ds.mapM (toPy k S) with
      | none => rw [e] at h; cases h
      | some ps => rw [e] at h; cases h; exact .tup hs (dpAll_of (dp_of s k) rl e)
    | @rol a vs ds hs rl =>
      simp only [toPy] at h
      cases e : ds.mapM (toPy k S) with
      | none => rw [e] at h; cases h
      | some ps => rw [e] at h; cases h; exact .lst hs.l (dpAll_of (dp_of s k) rl e)
    | @ref a n hn =>
      simp only [toPy] at h
      cases e0 : S[n]? with
      | none => rw [e0] at h; cases h
      | some o =>
        cases o with
        | lst ds =>
          rw [e0] at h
          simp only at h
          obtain ⟨vs, e1, rl⟩ := s.ob n a _ hn e0
          cases e : ds.mapM (toPy k S) with
          | none => rw [e] at h; cases h
          | some ps => rw [e] at h; cases h; exact .lst (SqL.of e1) (dpAll_of (dp_of s k) rl e)
end
end DW

set_option Elab.async false
set_option linter.all false
set_option maxRecDepth 100000
set_option maxHeartbeats 2000000
/-! a small language, what it means, and how the program's text becomes it -/
namespace DW
open PySem PySem.Spec PyProof.Rows L2

inductive Bn where
  | len | isinst | all | any | abs | int | min2 | max2 | list | tuple | sum
  deriving DecidableEq

mutual
inductive IE where
  | var (i : Nat)
  | cst (d : D)
  | tup (as : IA)
  | lst (as : IA)
  | bin (op : Operator) (a b : IE)
  | not (a : IE)
  | neg (a : IE)
  | and (a b : IE)
  | or (a b : IE)
  | cmp (op : CmpOp) (a b : IE)
  | chn (op op' : CmpOp) (a b c : IE)
  | ite (t : IT) (a b : IE)
  | fn (f : Nat) (as : IA)
  | blt (f : Bn) (as : IA)
  | idx (a i : IE)
  | slc (a : IE) (lo hi : IO)
  | app (o a : IE)
  | lcp (own : List Nat) (g : IG) (it : II) (t : ITs) (elt : IE)
  | dsub (ks : List Str) (vs : IA) (x : IE)
inductive IA where
  | nil
  | cons (e : IE) (as : IA)
inductive IO where
  | no
  | yes (e : IE)
inductive IT where
  | val (e : IE)
  | cmp (op : CmpOp) (a b : IE)
  | chn (op op' : CmpOp) (a b c : IE)
  | and (a b : IT)
  | or (a b : IT)
  | not (a : IT)
inductive ITs where
  | none
  | one (t : IT)
inductive IG where
  | name (i : Nat)
  | tup (gs : IGs)
  | sub (o i : IE)
inductive IGs where
  | nil
  | cons (g : IG) (gs : IGs)
inductive II where
  | val (e : IE)
  | rng1 (a : IE)
  | rng2 (a b : IE)
  | enum (a : IE)
  | zip (a b : IE)
end

mutual
inductive IS where
  | ret (e : IE)
  | retN
  | expr (e : IE)
  | asg (g : IG) (e : IE)
  | par (i j : Nat) (a b : IE)
  | ifs (t : IT) (a b : IB)
  | fr (g : IG) (it : II) (body : IB)
  | wh (t : IT) (body : IB)
  | pass
  | brk
  | cont
inductive IB where
  | nil
  | cons (s : IS) (b : IB)
end

mutual
def gSlots : IG → List Nat
  | .name i => [i]
  | .tup gs => gsSlots gs
  | .sub _ _ => []
def gsSlots : IGs → List Nat
  | .nil => []
  | .cons g gs => gSlots g ++ gsSlots gs
end

def gsLen : IGs → Nat
  | .nil => 0
  | .cons _ gs => gsLen gs + 1

/-! ### operations on data -/
def LIM : Nat := 100000
theorem LIM_le : LIM ≤ sizeLine := by rw [sizeLine_eq]; decide
theorem lim_le {n : Nat} (h : n ≤ LIM) : n ≤ sizeLine := Nat.le_trans h LIM_le
theorem lim_lt {n : Nat} (h : n < LIM) : n < sizeLine := Nat.lt_of_lt_of_le h LIM_le

def isRef : D → Bool
  | .ref _ => true
  | _ => false
def isNon : D → Bool
  | .non => true
  | _ => false

def dOp (op : Operator) (x y : D) (S : Sto) (Q : KQ) : Prop :=
  match op, x, y with
  | .Add, .int i, .int j => Q (.int (i + j)) S
  | .Sub, .int i, .int j => Q (.int (i - j)) S
  | .Mult, .int i, .int j => CMul i j ∧ Q (.int (i * j)) S
  | .FloorDiv, .int i, .int j => CDiv i j ∧ Q (.int (i / j)) S
  | .Mod, .int i, .int j => 0 < j ∧ Q (.int (i % j)) S
  | .Pow, .int i, .int j => CPow i j ∧ Q (.int (i ^ j.toNat)) S
  | .Add, .str i, .str j => i.length + j.length ≤ LIM ∧ Q (.str (i ++ j)) S
  | .Add, .tup xs, .tup ys => xs.length + ys.length ≤ LIM ∧ Q (.tup (xs ++ ys)) S
  | .Add, .ref m, .ref n => match S[m]?, S[n]? with
    | some (.lst xs), some (.lst ys) => xs.length + ys.length ≤ LIM ∧ Q (.ref S.length) (S ++ [.lst (xs ++ ys)])
    | _, _ => False
  | .Mult, .ref m, .int k => match S[m]? with
    | some (.lst xs) => (-(2 ^ 63) ≤ k ∧ k < 2 ^ 63 ∧ xs.length * k.toNat ≤ LIM) ∧ Q (.ref S.length) (S ++ [.lst (List.replicate k.toNat xs).flatten])
    | _ => False
  | .Mult, .tup xs, .int k => (xs ≠ [] ∧ 2 ≤ k ∧ k ≤ 1000 ∧ xs.length ≤ 1000) ∧ Q (.tup (List.replicate k.toNat xs).flatten) S
  | _, _, _ => False

/-- two data as Python compares them -/
def dEq (x y : D) (S : Sto) (Q : KB) : Prop :=
  ∃ p q, toPy 66 S x = some p ∧ toPy 66 S y = some q ∧ SeqAt.shaped p = true ∧ SeqAt.shaped q = true ∧ Q (PyData.eqv p q) S
def dIn (x y : D) (S : Sto) (Q : KB) : Prop :=
  ∃ p q, toPy 66 S x = some p ∧ toPy 66 S y = some q ∧ SeqAt.shaped p = true ∧ SeqAt.shaped q = true ∧
    ((∃ qs, q = .tuple qs ∧ Q (qs.any fun z => PyData.eqv z p) S) ∨ (∃ qs, q = .list qs ∧ Q (qs.any fun z => PyData.eqv z p) S))
def dCmp (op : CmpOp) (x y : D) (S : Sto) (Q : KB) : Prop :=
  match op with
  | .Eq => dEq x y S Q
  | .NotEq => dEq x y S fun b S' => Q (!b) S'
  | .In => dIn x y S Q
  | .NotIn => dIn x y S fun b S' => Q (!b) S'
  | .Lt => match x, y with | .int i, .int j => Q (decide (i < j)) S | _, _ => False
  | .LtE => match x, y with | .int i, .int j => Q (decide (i ≤ j)) S | _, _ => False
  | .Gt => match x, y with | .int i, .int j => Q (decide (j < i)) S | _, _ => False
  | .GtE => match x, y with | .int i, .int j => Q (decide (j ≤ i)) S | _, _ => False
  | .Is => match y with | .non => Q (isNon x) S | _ => False
  | .IsNot => match y with | .non => Q (!isNon x) S | _ => False
def dTru (x : D) (S : Sto) (Q : KB) : Prop :=
  match x with
  | .non => Q false S
  | .bl b => Q b S
  | .int i => Q (i != 0) S
  | .str y => y.length ≤ LIM ∧ Q ((y.length : Int) != 0) S
  | .tup xs => Q (!xs.isEmpty) S
  | .rol xs => Q (!xs.isEmpty) S
  | .ref n => match S[n]? with
    | some (.lst xs) => Q (!xs.isEmpty) S
    | none => False
  | .ty _ => False
def dIdx (x i : D) (S : Sto) (Q : KQ) : Prop :=
  match x, i with
  | .tup xs, .int k => ∃ v, atI xs k = some v ∧ Q v S
  | .rol xs, .int k => ∃ v, atI xs k = some v ∧ Q v S
  | .ref n, .int k => match S[n]? with
    | some (.lst xs) => ∃ v, atI xs k = some v ∧ Q v S
    | none => False
  | _, _ => False
def cutD (xs : List D) (lo hi : Option Int) : List D := (xs.drop (HT.sIx xs.length 0 lo)).take (HT.sIx xs.length xs.length hi - HT.sIx xs.length 0 lo)
def dSlc (x : D) (lo hi : Option Int) (S : Sto) (Q : KQ) : Prop :=
  match x with
  | .tup xs => Q (.tup (cutD xs lo hi)) S
  | .rol xs => Q (.ref S.length) (S ++ [.lst (cutD xs lo hi)])
  | .ref n => match S[n]? with
    | some (.lst xs) => Q (.ref S.length) (S ++ [.lst (cutD xs lo hi)])
    | none => False
  | _ => False
/-- the name of a value's type -/
def tyOf : D → String
  | .non => "NoneType"
  | .bl _ => "bool"
  | .int _ => "int"
  | .str _ => "str"
  | .tup _ => "tuple"
  | .rol _ => "list"
  | .ref _ => "list"
  | .ty _ => "type"
def bools : List D → Option (List Bool)
  | [] => some []
  | .bl b :: r => (bools r).map (b :: ·)
  | _ :: _ => none
def items (S : Sto) : D → Option (List D)
  | .tup xs => some xs
  | .rol xs => some xs
  | .ref n => match S[n]? with
    | some (.lst xs) => some xs
    | none => none
  | _ => none
def dLen (x : D) (S : Sto) (Q : KQ) : Prop :=
  match x with
  | .str z => z.length ≤ LIM ∧ Q (.int z.length) S
  | x => match items S x with
    | some xs => Q (.int xs.length) S
    | none => False
def dIsi (x t : D) (S : Sto) (Q : KQ) : Prop :=
  match t with
  | .ty t => (match x with | .ty _ => False | _ => True) ∧ match kitB (tyOf x) t with
    | some b => Q (.bl b) S
    | none => False
  | _ => False
def dBools (x : D) (S : Sto) (k : List Bool → Prop) : Prop :=
  match x with
  | .ref n => match S[n]? with
    | some (.lst xs) => match bools xs with
      | some bs => k bs
      | none => False
    | none => False
  | _ => False
def dInt1 (x : D) (k : Int → Prop) : Prop :=
  match x with
  | .int i => k i
  | _ => False
def dItems (x : D) (S : Sto) (k : List D → Prop) : Prop :=
  match items S x with
  | some xs => k xs
  | none => False
def allI : List D → Option (List Int)
  | [] => some []
  | .int b :: r => (allI r).map (b :: ·)
  | _ :: _ => none
def dInts (x : D) (S : Sto) (k : List Int → Prop) : Prop :=
  match x with
  | .ref n => match S[n]? with
    | some (.lst xs) => match allI xs with
      | some is => k is
      | none => False
    | none => False
  | .rol xs => match allI xs with
    | some is => k is
    | none => False
  | _ => False
def dBlt (f : Bn) (xs : List D) (S : Sto) (Q : KQ) : Prop :=
  match xs with
  | [x] => match f with
    | .len => dLen x S Q
    | .all => dBools x S fun bs => Q (.bl (bs.all id)) S
    | .any => dBools x S fun bs => Q (.bl (bs.any id)) S
    | .abs => dInt1 x fun i => Q (.int (if i < 0 then -i else i)) S
    | .sum => dInts x S fun is => Q (.int is.sum) S
    | .int => dInt1 x fun i => Q (.int i) S
    | .list => dItems x S fun xs => Q (.ref S.length) (S ++ [.lst xs])
    | .tuple => dItems x S fun xs => Q (.tup xs) S
    | _ => False
  | [x, y] => match f with
    | .isinst => dIsi x y S Q
    | .min2 => dInt1 x fun i => dInt1 y fun j => Q (.int (if j < i then j else i)) S
    | .max2 => dInt1 x fun i => dInt1 y fun j => Q (.int (if j > i then j else i)) S
    | _ => False
  | _ => False
def dApp (o a : D) (S : Sto) (Q : KQ) : Prop :=
  match o with
  | .ref n => match S[n]? with
    | some (.lst xs) => xs.length < LIM ∧ Q .non (S.set n (.lst (xs ++ [a])))
    | none => False
  | _ => False
def dSet (o i d : D) (S : Sto) (Q : Sto → Prop) : Prop :=
  match o, i with
  | .ref n, .int k => match S[n]? with
    | some (.lst xs) => ∃ j, ixN xs.length k = some j ∧ Q (S.set n (.lst (xs.set j d)))
    | none => False
  | _, _ => False
def intsFrom (lo : Int) (n : Nat) : List D := (List.range n).map fun (i : Nat) => D.int (lo + (i : Int))
def wipeD (ρ : En) : List Nat → En
  | [] => ρ
  | v :: vs => (wipeD ρ vs).set v none
abbrev KI := List D → (Sto → Prop) → Sto → Prop
def dIter (d : D) (S : Sto) (k : KI) : Prop :=
  match d with
  | .tup ds => k ds (fun _ => True) S
  | .rol ds => k ds (fun _ => True) S
  | .ref n => match S[n]? with
    | some (.lst ds) => k ds (fun S' => S'[n]? = some (.lst ds)) S
    | none => False
  | _ => False
/-- what a written dict holds -/
def dLook : List Str → List D → Str → Option D
  | k :: ks, d :: ds, y => if k = y then some d else dLook ks ds y
  | _, _, _ => none
/-- a list's items, and that it still holds them -/
def dLIter (d : D) (S : Sto) (k : List D → (Sto → Prop) → Prop) : Prop :=
  match d with
  | .rol ds => k ds fun _ => True
  | .ref n => match S[n]? with
    | some (.lst ds) => k ds fun S' => S'[n]? = some (.lst ds)
    | none => False
  | _ => False
def enumD (ds : List D) : List D := ds.mapIdx fun i d => .tup [.int (i : Nat), d]
def zipD (xs ys : List D) : List D := List.zipWith (fun x y => D.tup [x, y]) xs ys
def dZip (x y : D) (S : Sto) (Q : KI) : Prop :=
  match x, y with
  | .tup xs, .tup ys => Q (zipD xs ys) (fun _ => True) S
  | x, y => dLIter x S fun xs c => dLIter y S fun ys c' => Q (zipD xs ys) (fun S' => c S' ∧ c' S') S
/-- the comprehension's loop -/
def cLoop (n : Nat) (chk : Sto → Prop) (turn : D → Sto → (D → Sto → Prop) → (Sto → Prop) → Prop) (k : Sto → Prop) : List D → Sto → Prop
  | [], S => chk S ∧ k S
  | d :: r, S => chk S ∧ turn d S (fun y S4 => ∃ acc, S4[n]? = some (.lst acc) ∧ acc.length < LIM ∧ cLoop n chk turn k r (S4.set n (.lst (acc ++ [y])))) (cLoop n chk turn k r)

/-! ### what the language means -/
section
variable (fs : List FSp)
mutual
def wE : IE → En → Sto → KQ → Prop
  | .var i, ρ, S, Q => match ρ[i]? with
    | some (some d) => Q d S
    | _ => False
  | .cst d, _, S, Q => Q d S
  | .tup as, ρ, S, Q => wA as ρ S fun ds S1 => ds.length ≤ LIM ∧ Q (.tup ds) S1
  | .lst as, ρ, S, Q => wA as ρ S fun ds S1 => ds.length ≤ LIM ∧ Q (.ref S1.length) (S1 ++ [.lst ds])
  | .bin op a b, ρ, S, Q => wE a ρ S fun x S1 => wE b ρ S1 fun y S2 => dOp op x y S2 Q
  | .not a, ρ, S, Q => wE a ρ S fun x S1 => dTru x S1 fun b S2 => Q (.bl (!b)) S2
  | .neg a, ρ, S, Q => wE a ρ S fun x S1 => match x with
    | .int i => Q (.int (-i)) S1
    | _ => False
  | .and a b, ρ, S, Q => wE a ρ S fun x S1 => dTru x S1 fun k S2 => if k = true then wE b ρ S2 Q else Q x S2
  | .or a b, ρ, S, Q => wE a ρ S fun x S1 => dTru x S1 fun k S2 => if k = true then Q x S2 else wE b ρ S2 Q
  | .cmp op a b, ρ, S, Q => wE a ρ S fun x S1 => wE b ρ S1 fun y S2 => dCmp op x y S2 fun k S3 => Q (.bl k) S3
  | .chn op op' a b c, ρ, S, Q => wE a ρ S fun x S1 => wE b ρ S1 fun y S2 => dCmp op x y S2 fun k S3 => if k = true then wE c ρ S3 fun z S4 => dCmp op' y z S4 fun k' S5 => Q (.bl k') S5 else Q (.bl false) S3
  | .ite t a b, ρ, S, Q => wT t ρ S fun k S1 => if k = true then wE a ρ S1 Q else wE b ρ S1 Q
  | .fn f as, ρ, S, Q => wA as ρ S fun ds S1 => match fs[f]? with
    | some sp => sp ds S1 Q
    | none => False
  | .blt f as, ρ, S, Q => wA as ρ S fun ds S1 => dBlt f ds S1 Q
  | .idx a i, ρ, S, Q => wE a ρ S fun x S1 => wE i ρ S1 fun y S2 => dIdx x y S2 Q
  | .slc a lo hi, ρ, S, Q => wE a ρ S fun x S1 => wO lo ρ S1 fun l S2 => wO hi ρ S2 fun h S3 => dSlc x l h S3 Q
  | .app o a, ρ, S, Q => wE o ρ S fun x S1 => isRef x = true ∧ wE a ρ S1 fun y S2 => dApp x y S2 Q
  | .lcp own g it t elt, ρ, S, Q => wI it ρ S fun ds chk S1 =>
      cLoop S1.length chk (fun d S2 ky kn => wG g d (wipeD ρ own) S2 fun ρ2 S3 => wTs t ρ2 S3 fun k S4 => if k = true then wE elt ρ2 S4 ky else kn S4) (Q (.ref S1.length)) ds (S1 ++ [.lst []])
  | .dsub ks vs x, ρ, S, Q => wA vs ρ S fun ds S1 => wE x ρ S1 fun d S2 => match d with
    | .str y => ∃ v, dLook ks ds y = some v ∧ Q v S2
    | _ => False
def wA : IA → En → Sto → KL → Prop
  | .nil, _, S, Q => Q [] S
  | .cons e as, ρ, S, Q => wE e ρ S fun d S1 => wA as ρ S1 fun ds S2 => Q (d :: ds) S2
def wO : IO → En → Sto → (Option Int → Sto → Prop) → Prop
  | .no, _, S, Q => Q none S
  | .yes e, ρ, S, Q => wE e ρ S fun d S1 => match d with
    | .int i => Q (some i) S1
    | _ => False
def wT : IT → En → Sto → KB → Prop
  | .val e, ρ, S, Q => wE e ρ S fun x S1 => dTru x S1 Q
  | .cmp op a b, ρ, S, Q => wE a ρ S fun x S1 => wE b ρ S1 fun y S2 => dCmp op x y S2 Q
  | .chn op op' a b c, ρ, S, Q => wE a ρ S fun x S1 => wE b ρ S1 fun y S2 => dCmp op x y S2 fun k S3 => if k = true then wE c ρ S3 fun z S4 => dCmp op' y z S4 Q else Q false S3
  | .and a b, ρ, S, Q => wT a ρ S fun k S1 => if k = true then wT b ρ S1 Q else Q false S1
  | .or a b, ρ, S, Q => wT a ρ S fun k S1 => if k = true then Q true S1 else wT b ρ S1 Q
  | .not a, ρ, S, Q => wT a ρ S fun k S1 => Q (!k) S1
def wTs : ITs → En → Sto → KB → Prop
  | .none, _, S, Q => Q true S
  | .one t, ρ, S, Q => wT t ρ S Q
def wG : IG → D → En → Sto → (En → Sto → Prop) → Prop
  | .name i, d, ρ, S, Q => Q (ρ.set i (some d)) S
  | .tup gs, d, ρ, S, Q => match d with
    | .tup ds => ds.length = gsLen gs ∧ wGs gs ds ρ S Q
    | _ => False
  | .sub o i, d, ρ, S, Q => wE o ρ S fun od S1 => wE i ρ S1 fun id S2 => dSet od id d S2 fun S3 => Q ρ S3
def wGs : IGs → List D → En → Sto → (En → Sto → Prop) → Prop
  | .nil, ds, ρ, S, Q => ds = [] ∧ Q ρ S
  | .cons g gs, ds, ρ, S, Q => match ds with
    | d :: r => wG g d ρ S fun ρ1 S1 => wGs gs r ρ1 S1 Q
    | [] => False
def wI : II → En → Sto → KI → Prop
  | .val e, ρ, S, Q => wE e ρ S fun d S1 => dIter d S1 Q
  | .rng1 a, ρ, S, Q => wE a ρ S fun d S1 => match d with
    | .int j => (-(2 ^ 62) ≤ j ∧ j < 2 ^ 62) ∧ Q (intsFrom 0 j.toNat) (fun _ => True) S1
    | _ => False
  | .rng2 a b, ρ, S, Q => wE a ρ S fun d S1 => wE b ρ S1 fun e S2 => match d, e with
    | .int i, .int j => (-(2 ^ 62) ≤ i ∧ i < 2 ^ 62 ∧ -(2 ^ 62) ≤ j ∧ j < 2 ^ 62) ∧ Q (intsFrom i (j - i).toNat) (fun _ => True) S2
    | _, _ => False
  | .enum a, ρ, S, Q => wE a ρ S fun d S1 => dLIter d S1 fun ds chk => Q (enumD ds) chk S1
  | .zip a b, ρ, S, Q => wE a ρ S fun d S1 => wE b ρ S1 fun e S2 => dZip d e S2 Q
end

structure DEnds where
  nx : En → Sto → Prop
  rt : KQ
  bk : En → Sto → Prop
  ct : En → Sto → Prop
def fLoop (chk : Sto → Prop) (tg : D → En → Sto → (En → Sto → Prop) → Prop) (body : DEnds → En → Sto → Prop) (E : DEnds) : List D → En → Sto → Prop
  | [], ρ, S => chk S ∧ E.nx ρ S
  | d :: r, ρ, S => chk S ∧ tg d ρ S fun ρ2 S2 => body { E with nx := fLoop chk tg body E r, ct := fLoop chk tg body E r, bk := E.nx } ρ2 S2
def hLoop (c : En → Sto → KB → Prop) (body : DEnds → En → Sto → Prop) (E : DEnds) : Nat → En → Sto → Prop
  | 0, _, _ => False
  | n + 1, ρ, S => c ρ S fun k S1 => if k = true then body { E with nx := hLoop c body E n, ct := hLoop c body E n, bk := E.nx } ρ S1 else E.nx ρ S1
mutual
def wS : IS → DEnds → En → Sto → Prop
  | .ret e, E, ρ, S => wE fs e ρ S E.rt
  | .retN, E, _, S => E.rt .non S
  | .expr e, E, ρ, S => wE fs e ρ S fun _ S1 => E.nx ρ S1
  | .asg g e, E, ρ, S => wE fs e ρ S fun d S1 => wG fs g d ρ S1 E.nx
  | .par i j a b, E, ρ, S => wE fs a ρ S fun x S1 => wE fs b ρ S1 fun y S2 => E.nx ((ρ.set i (some x)).set j (some y)) S2
  | .ifs t a b, E, ρ, S => wT fs t ρ S fun k S1 => if k = true then wB a E ρ S1 else wB b E ρ S1
  | .fr g it body, E, ρ, S => wI fs it ρ S fun ds chk S1 => fLoop chk (fun d ρ' S' k => wG fs g d ρ' S' k) (fun E' ρ' S' => wB body E' ρ' S') E ds ρ S1
  | .wh t body, E, ρ, S => ∃ n, hLoop (fun ρ' S' k => wT fs t ρ' S' k) (fun E' ρ' S' => wB body E' ρ' S') E n ρ S
  | .pass, E, ρ, S => E.nx ρ S
  | .brk, E, ρ, S => E.bk ρ S
  | .cont, E, ρ, S => E.ct ρ S
def wB : IB → DEnds → En → Sto → Prop
  | .nil, E, ρ, S => E.nx ρ S
  | .cons s b, E, ρ, S => wS s { E with nx := fun ρ' S' => wB b E ρ' S' } ρ S
end
end
end DW

set_option Elab.async false
set_option linter.all false
set_option maxRecDepth 100000
set_option maxHeartbeats 2000000
/-! the program's text becomes the small language -/
namespace DW
open PySem PySem.Spec PyProof.Rows L2

structure Ctx where
  N : List Str
  sc : Scope
  blk : Option Scope
  con : List (Str × D)
  fn : List Str
  bn : List Str

def Ctx.kind (C : Ctx) (x : Str) : Option NameKind := C.sc.names.lookup x
/-- a name that can be stored -/
def Ctx.okSt (C : Ctx) (x : Str) : Bool :=
  match C.kind x with
  | some .local => true
  | some .cell => match C.blk with
    | none => true
    | some s => s.names.lookup x == some .cell
  | _ => false
def idxOf (N : List Str) (x : Str) : Option Nat :=
  match N with
  | [] => none
  | y :: r => if y = x then some 0 else (idxOf r x).map (· + 1)
theorem idxOf_get : ∀ {N : List Str} {x : Str} {i : Nat}, idxOf N x = some i → N[i]? = some x
  | [], _, _, h => by cases h
  | y :: r, x, i, h => by
    unfold idxOf at h
    by_cases e : y = x
    · rw [if_pos e] at h; cases h; simp [e]
    · rw [if_neg e] at h
      cases q : idxOf r x with
      | none => rw [q] at h; cases h
      | some j => rw [q] at h; cases h; simpa using idxOf_get q

def isTupE : Expr → Bool
  | .Tuple _ _ _ => true
  | _ => false
def tyName (x : Str) : Option String :=
  if x = "tuple" then some "tuple" else if x = "int" then some "int" else if x = "bool" then some "bool" else if x = "str" then some "str" else if x = "list" then some "list" else none
def bnOf (x : Str) (n : Nat) : Option Bn :=
  if x = "len" ∧ n = 1 then some .len else if x = "isinstance" ∧ n = 2 then some .isinst else if x = "all" ∧ n = 1 then some .all else if x = "any" ∧ n = 1 then some .any else if x = "abs" ∧ n = 1 then some .abs
  else if x = "int" ∧ n = 1 then some .int else if x = "min" ∧ n = 2 then some .min2 else if x = "max" ∧ n = 2 then some .max2 else if x = "list" ∧ n = 1 then some .list else if x = "tuple" ∧ n = 1 then some .tuple else if x = "sum" ∧ n = 1 then some .sum else none
/-- the names that a block owns, with their places -/
def ownOf (N : List Str) : List (Str × NameKind) → List (Str × Nat)
  | [] => []
  | (x, k) :: r => if k = .local ∨ k = .cell then match idxOf N x with
      | some i => (x, i) :: ownOf N r
      | none => ownOf N r
    else ownOf N r

def constD : Const → Option D
  | .none => some .non
  | .bool b => some (.bl b)
  | .int i => some (.int i)
  | .str x => some (.str x)
  | _ => none
def compA (f : Expr → Option IE) : List Expr → Option IA
  | [] => some .nil
  | e :: r => match f e, compA f r with
    | some a, some b => some (.cons a b)
    | _, _ => none
def compK (f : Expr → Option IE) : List (Option Expr) → Option (List Str)
  | [] => some []
  | some e :: r => match f e, compK f r with
    | some (.cst (.str k)), some ks => some (k :: ks)
    | _, _ => none
  | none :: _ => none
def compO (f : Expr → Option IE) : Option Expr → Option IO
  | none => some .no
  | some e => (f e).map .yes
def compGs (f : Expr → Option IG) : List Expr → Option IGs
  | [] => some .nil
  | e :: r => match f e, compGs f r with
    | some a, some b => some (.cons a b)
    | _, _ => none
def okName (x : Str) : Bool := !(x == ("__debug__" : Str)) && !(x == ("__classdict__" : Str)) && !(x == ("__name__" : Str))

mutual
def compE : Nat → Ctx → Expr → Option IE
  | 0, _, _ => none
  | n + 1, C, e => match e with
    | .Constant c _ _ => (constD c).map .cst
    | .Name x _ => if okName x = true then match C.kind x with
        | some .local => (idxOf C.N x).map .var
        | some .cell => (idxOf C.N x).map .var
        | some .free => (idxOf C.N x).map .var
        | some .globalImplicit => match C.con.lookup x with
          | some d => some (.cst d)
          | none => if C.bn.contains x = true then (tyName x).map fun t => .cst (.ty t) else none
        | _ => none
      else none
    | .Tuple es _ _ => (compA (compE n C) es).map .tup
    | .List es _ => (compA (compE n C) es).map .lst
    | .BinOp a op b _ => match compE n C a, compE n C b with
      | some x, some y => some (.bin op x y)
      | _, _ => none
    | .UnaryOp .Not a _ => (compE n C a).map .not
    | .UnaryOp .USub a _ => (compE n C a).map .neg
    | .BoolOp op es p => match es with
      | [a] => compE n C a
      | a :: b :: r => match compE n C a, compE n C (.BoolOp op (b :: r) p) with
        | some x, some y => some (match op with
          | .And => .and x y
          | .Or => .or x y)
        | _, _ => none
      | [] => none
    | .Compare a ops es _ => match ops, es with
      | [op], [b] => match compE n C a, compE n C b with
        | some x, some y => some (.cmp op x y)
        | _, _ => none
      | [op, op'], [b, c] => match compE n C a, compE n C b, compE n C c with
        | some x, some y, some z => some (.chn op op' x y z)
        | _, _, _ => none
      | _, _ => none
    | .IfExp c a b _ => match compT n C c, compE n C a, compE n C b with
      | some t, some x, some y => some (.ite t x y)
      | _, _, _ => none
    | .Call f es ks p => match f, ks with
      | .Name x _, [] => if okName x = true ∧ C.kind x = some .globalImplicit then match idxOf C.fn x with
          | some i => (compA (compE n C) es).map (.fn i)
          | none => if C.bn.contains x = true then match bnOf x es.length with
              | some b => (compA (compE n C) es).map (.blt b)
              | none => none
            else none
        else none
      | .Attribute o m ap, [] => match o, es with
        | .Name _ _, [a] => if m = "append" ∧ (ap.endLine == p.line) = true then match compE n C o, compE n C a with
            | some x, some y => some (.app x y)
            | _, _ => none
          else none
        | _, _ => none
      | _, _ => none
    | .Subscript a i _ => match i with
      | .Slice lo hi none _ => match compE n C a, compO (compE n C) lo, compO (compE n C) hi with
        | some x, some l, some h => some (.slc x l h)
        | _, _, _ => none
      | i => match compE n C a, compE n C i with
        | some x, some y => some (.idx x y)
        | none, some y => match a with
          | .Dict keys vs _ => match compK (compE n C) keys, compA (compE n C) vs with
            | some ks, some as => if keys.length = vs.length ∧ keys.length ≤ 15 ∧ 0 < keys.length ∧ ks.Nodup ∧ keys.all (·.isSome) = true then some (.dsub ks as y) else none
            | _, _ => none
          | _ => none
        | _, _ => none
    | .ListComp elt gs scope _ => match gs with
      | [g] => match compLc n C elt g scope with
        | some (own, g', it', t', e') => some (.lcp own g' it' t' e')
        | none => none
      | _ => none
    | _ => none
def compLc : Nat → Ctx → Expr → Comprehension → Scope → Option (List Nat × IG × II × ITs × IE)
  | 0, _, _, _, _ => none
  | n + 1, C, elt, g, scope =>
    let own := ownOf C.N scope.names
    let C' : Ctx := { C with sc := relS scope C.sc, blk := some scope }
    if g.is_async = 0 ∧ blkC C.N C.sc scope own = true then
      match compG n C' g.target, compI n C g.target g.iter, compTs n C' g.ifs, compE n C' elt with
      | some a, some b, some c, some d => if (gSlots a).all (fun i => (own.map (·.2)).contains i) = true then some (own.map (·.2), a, b, c, d) else none
      | _, _, _, _ => none
    else none
def compT : Nat → Ctx → Expr → Option IT
  | 0, _, _ => none
  | n + 1, C, e => match e with
    | .UnaryOp .Not a _ => (compT n C a).map .not
    | .BoolOp op es p => match es with
      | [a] => compT n C a
      | a :: b :: r => match compT n C a, compT n C (.BoolOp op (b :: r) p) with
        | some x, some y => some (match op with
          | .And => .and x y
          | .Or => .or x y)
        | _, _ => none
      | [] => none
    | .Compare a ops es _ => match ops, es with
      | [op], [b] => match compE n C a, compE n C b with
        | some x, some y => some (.cmp op x y)
        | _, _ => none
      | [op, op'], [b, c] => match compE n C a, compE n C b, compE n C c with
        | some x, some y, some z => some (.chn op op' x y z)
        | _, _, _ => none
      | _, _ => none
    | .IfExp .. => none
    | e => (compE n C e).map .val
def compTs : Nat → Ctx → List Expr → Option ITs
  | 0, _, _ => none
  | n + 1, C, es => match es with
    | [] => some .none
    | [t] => (compT n C t).map .one
    | _ => none
def compG : Nat → Ctx → Expr → Option IG
  | 0, _, _ => none
  | n + 1, C, e => match e with
    | .Name x _ => if C.okSt x = true then (idxOf C.N x).map .name else none
    | .Tuple es _ _ => (compGs (compG n C) es).map .tup
    | .Subscript o i _ => match i with
      | .Slice .. => none
      | i => match compE n C o, compE n C i with
        | some x, some y => some (.sub x y)
        | _, _ => none
    | _ => none
def compI : Nat → Ctx → Expr → Expr → Option II
  | 0, _, _, _ => none
  | n + 1, C, tg, e => match e with
    | .Call (.Name x _) es [] _ => if x = "range" ∧ C.kind x = some .globalImplicit ∧ C.bn.contains x = true then match es with
        | [a] => (compE n C a).map .rng1
        | [a, b] => match compE n C a, compE n C b with
          | some x, some y => some (.rng2 x y)
          | _, _ => none
        | _ => none
      else if x = "enumerate" ∧ C.kind x = some .globalImplicit ∧ C.bn.contains x = true ∧ isTupE tg = true then match es with
        | [a] => (compE n C a).map .enum
        | _ => none
      else if x = "zip" ∧ C.kind x = some .globalImplicit ∧ C.bn.contains x = true ∧ isTupE tg = true then match es with
        | [a, b] => match compE n C a, compE n C b with
          | some x, some y => some (.zip x y)
          | _, _ => none
        | _ => none
      else (compE n C e).map .val
    | e => (compE n C e).map .val
end

/-- is e a comprehension of a kind that a store could take in -/
def isComp : Expr → Bool
  | .ListComp .. => true
  | .SetComp .. => true
  | .DictComp .. => true
  | _ => false
/-- two plain local names, each its own -/
def isParT : List Expr → Bool
  | [.Name _ _, .Name _ _] => true
  | _ => false
def okLc (C : Ctx) (x : Str) (px : Pos) (v : Expr) : Bool :=
  match v with
  | .ListComp _ _ sc p => decide (C.kind x = some .local) && decide (C.sc.kind = .function) && (px.line == p.line) && !(sc.names.any fun (n, k) => n == x && (k == .local || k == .cell))
  | _ => false
mutual
def compS : Nat → Ctx → Stmt → Option IS
  | 0, _, _ => none
  | n + 1, C, s => match s with
    | .Return v _ => match v with
      | some e => (compE n C e).map .ret
      | none => some .retN
    | .Expr e _ => match e with
      | .Constant (.str _) _ _ => some .pass
      | e => if isComp e = true then none else (compE n C e).map .expr
    | .Assign ts v p => match ts with
      | [.Name x px] => match compE n C v, idxOf C.N x with
        | some e, some i =>
          if isComp v = true then (if okLc C x px v = true then some (.asg (.name i) e) else none)
          else if C.okSt x = true then some (.asg (.name i) e) else none
        | _, _ => none
      | [.Tuple tt kt pt] => match v with
        | .Tuple vs kv pv => match tt, vs with
          | [.Name x px, .Name y py], [a, b] => match idxOf C.N x, idxOf C.N y, compE n C a, compE n C b with
            | some i, some j, some ea, some eb => if i ≠ j ∧ x ≠ y ∧ C.kind x = some .local ∧ C.kind y = some .local ∧ C.sc.kind = .function ∧ (py.line == px.line) = true ∧ [a, b].all (foldedForSure 8) = false ∧ [a, b].all (constantsAlone 8) = false then some (.par i j ea eb) else none
            | _, _, _, _ => none
          | _, _ => none
        | v => if isComp v = true then none else match compE n C v, compG n C (.Tuple tt kt pt) with
          | some e, some g => some (.asg g e)
          | _, _ => none
      | [.Subscript o i q] => if isComp v = true then none else match compE n C v, compG n C (.Subscript o i q) with
        | some e, some g => some (.asg g e)
        | _, _ => none
      | _ => none
    | .If c a b _ => match compT n C c, compB n C a, compB n C b with
      | some t, some x, some y => some (.ifs t x y)
      | _, _, _ => none
    | .For tg it body els _ => match els with
      | [] => match compG n C tg, compI n C tg it, compB n C body with
        | some g, some i, some b => some (.fr g i b)
        | _, _, _ => none
      | _ => none
    | .While c body els _ => match els with
      | [] => match compT n C c, compB n C body with
        | some t, some b => some (.wh t b)
        | _, _ => none
      | _ => none
    | .Pass _ => some .pass
    | .Break _ => some .brk
    | .Continue _ => some .cont
    | _ => none
def compB : Nat → Ctx → List Stmt → Option IB
  | 0, _, _ => none
  | n + 1, C, ss => match ss with
    | [] => some .nil
    | s :: r => match compS n C s, compB n C r with
      | some a, some b => some (.cons a b)
      | _, _ => none
end
end DW

set_option Elab.async false
set_option linter.all false
set_option maxRecDepth 100000
set_option maxHeartbeats 2000000
/-! operations on data are what the program's operations do -/
namespace DW
open PySem PySem.Spec PyProof.Rows L2

section
variable {K : PySem.W.Frag} {φ φ' : List Addr} {H H' : Hp} {S : Sto}

structure EnvRel (K : PySem.W.Frag) (φ : List Addr) (H : Hp) (ρ : En) (σ : L2.St) : Prop where
  len : ρ.length = σ.length
  at_ : ∀ (i : Nat) (d : D), ρ[i]? = some (some d) → ∃ v, σ[i]? = some (some v) ∧ Rep K φ H v d
theorem EnvRel.mono {ρ : En} {σ : L2.St} (l : Le φ φ') (t : TupLe H H') (r : EnvRel K φ H ρ σ) : EnvRel K φ' H' ρ σ :=
  ⟨r.len, fun i d h => let ⟨v, e, q⟩ := r.at_ i d h; ⟨v, e, q.mono l t⟩⟩
theorem EnvRel.set {ρ : En} {σ : L2.St} {v : V} {d : D} (i : Nat) (r : EnvRel K φ H ρ σ) (q : Rep K φ H v d) : EnvRel K φ H (ρ.set i (some d)) (σ.set i (some v)) := by
  refine ⟨by rw [List.length_set, List.length_set]; exact r.len, fun j e h => ?_⟩
  by_cases hj : i = j
  · subst hj
    by_cases hl : i < ρ.length
    · rw [List.getElem?_set_self hl] at h
      cases h
      exact ⟨v, List.getElem?_set_self (by rw [← r.len]; exact hl), q⟩
    · rw [List.getElem?_eq_none (by rw [List.length_set]; omega)] at h; cases h
  · rw [List.getElem?_set_ne hj] at h
    rw [List.getElem?_set_ne hj]
    exact r.at_ j e h
theorem EnvRel.unset {ρ : En} {σ : L2.St} (i : Nat) (r : EnvRel K φ H ρ σ) : EnvRel K φ H (ρ.set i none) (σ.set i none) := by
  refine ⟨by rw [List.length_set, List.length_set]; exact r.len, fun j e h => ?_⟩
  by_cases hj : i = j
  · subst hj
    by_cases hl : i < ρ.length
    · rw [List.getElem?_set_self hl] at h; cases h
    · rw [List.getElem?_eq_none (by rw [List.length_set]; omega)] at h; cases h
  · rw [List.getElem?_set_ne hj] at h
    rw [List.getElem?_set_ne hj]
    exact r.at_ j e h
theorem EnvRel.wipe {ρ : En} {σ : L2.St} (r : EnvRel K φ H ρ σ) : ∀ own : List Nat, EnvRel K φ H (wipeD ρ own) (L2.wipe σ own)
  | [] => r
  | v :: vs => (EnvRel.wipe r vs).unset v

/-- only the slots told have changed -/
structure Only (σ σ2 : L2.St) (slots : List Nat) : Prop where
  len : σ2.length = σ.length
  at_ : ∀ j : Nat, j ∉ slots → σ2[j]? = σ[j]?
theorem Only.refl (σ : L2.St) (s : List Nat) : Only σ σ s := ⟨rfl, fun _ _ => rfl⟩
theorem Only.set (σ : L2.St) (i : Nat) (o : Option V) : Only σ (σ.set i o) [i] := ⟨by simp, fun j h => by
  rw [List.getElem?_set_ne]; intro e; exact h (by simp [e])⟩
theorem Only.trans {σ σ1 σ2 : L2.St} {s t : List Nat} (a : Only σ σ1 s) (b : Only σ1 σ2 t) : Only σ σ2 (s ++ t) :=
  ⟨b.len.trans a.len, fun j h => by
    rw [List.mem_append, not_or] at h
    rw [b.at_ j h.2, a.at_ j h.1]⟩
theorem wipe_get (σ : L2.St) (j : Nat) : ∀ own : List Nat, (L2.wipe σ own)[j]? = if j ∈ own then (if j < σ.length then some none else none) else σ[j]?
  | [] => by rw [if_neg (by simp)]; rfl
  | v :: vs => by
    show ((L2.wipe σ vs).set v none)[j]? = _
    have ih := wipe_get σ j vs
    by_cases hv : v = j
    · subst hv
      rw [if_pos (by simp)]
      by_cases hl : v < σ.length
      · rw [if_pos hl, List.getElem?_set_self (by rw [L2.wipe_length]; exact hl)]
      · rw [if_neg hl, List.getElem?_eq_none (by rw [List.length_set, L2.wipe_length]; omega)]
    · rw [List.getElem?_set_ne hv, ih]
      by_cases hm : j ∈ vs
      · rw [if_pos hm, if_pos (List.mem_cons_of_mem _ hm)]
      · rw [if_neg hm, if_neg (by simp only [List.mem_cons, not_or]; exact ⟨Ne.symm hv, hm⟩)]
theorem Only.wipe {σ σ2 : L2.St} {s own : List Nat} (a : Only σ σ2 s) (h : ∀ i ∈ s, i ∈ own) : L2.wipe σ2 own = L2.wipe σ own := by
  apply List.ext_getElem?
  intro j
  rw [wipe_get, wipe_get, a.len]
  by_cases hm : j ∈ own
  · rw [if_pos hm, if_pos hm]
  · rw [if_neg hm, if_neg hm, a.at_ j fun z => hm (h j z)]
theorem Only.wipe2 {σ σ2 : L2.St} {s own : List Nat} (a : Only (L2.wipe σ own) σ2 s) (h : ∀ i ∈ s, i ∈ own) : L2.wipe σ2 own = L2.wipe σ own := by
  apply List.ext_getElem?
  intro j
  rw [wipe_get, wipe_get, a.len, L2.wipe_length]
  by_cases hm : j ∈ own
  · rw [if_pos hm, if_pos hm]
  · rw [if_neg hm, if_neg hm, a.at_ j fun z => hm (h j z), wipe_get, if_neg hm]

/-! ### what is wanted of an end -/
def Post (K : PySem.W.Frag) (φ : List Addr) (H : Hp) (Q : VK) (QD : KQ) : Prop := ∀ (d : D) (S' : Sto) (v : V) (H' : Hp) (φ' : List Addr), Le φ φ' → TupLe H H' → SRel K φ' S' H' → Rep K φ' H' v d → QD d S' → Q v H'
def PostB (K : PySem.W.Frag) (φ : List Addr) (H : Hp) (Q : Bool → Hp → Prop) (QD : KB) : Prop := ∀ (b : Bool) (S' : Sto) (H' : Hp) (φ' : List Addr), Le φ φ' → TupLe H H' → SRel K φ' S' H' → QD b S' → Q b H'
def PostL (K : PySem.W.Frag) (φ : List Addr) (H : Hp) (Q : List V → Hp → Prop) (QD : KL) : Prop := ∀ (ds : List D) (S' : Sto) (vs : List V) (H' : Hp) (φ' : List Addr), Le φ φ' → TupLe H H' → SRel K φ' S' H' → RepL K φ' H' vs ds → QD ds S' → Q vs H'
def PostO (K : PySem.W.Frag) (φ : List Addr) (H : Hp) (Q : Option Int → Hp → Prop) (QD : Option Int → Sto → Prop) : Prop := ∀ (o : Option Int) (S' : Sto) (H' : Hp) (φ' : List Addr), Le φ φ' → TupLe H H' → SRel K φ' S' H' → QD o S' → Q o H'
theorem Post.mono {Q : VK} {QD : KQ} (p : Post K φ H Q QD) (l : Le φ φ') (t : TupLe H H') : Post K φ' H' Q QD := fun d S' v H2 φ2 l2 t2 s r q => p d S' v H2 φ2 (l.trans l2) (t.trans t2) s r q
theorem PostB.mono {Q : Bool → Hp → Prop} {QD : KB} (p : PostB K φ H Q QD) (l : Le φ φ') (t : TupLe H H') : PostB K φ' H' Q QD := fun d S' H2 φ2 l2 t2 s q => p d S' H2 φ2 (l.trans l2) (t.trans t2) s q
theorem PostL.mono {Q : List V → Hp → Prop} {QD : KL} (p : PostL K φ H Q QD) (l : Le φ φ') (t : TupLe H H') : PostL K φ' H' Q QD := fun d S' v H2 φ2 l2 t2 s r q => p d S' v H2 φ2 (l.trans l2) (t.trans t2) s r q
theorem PostO.mono {Q : Option Int → Hp → Prop} {QD : Option Int → Sto → Prop} (p : PostO K φ H Q QD) (l : Le φ φ') (t : TupLe H H') : PostO K φ' H' Q QD := fun d S' H2 φ2 l2 t2 s q => p d S' H2 φ2 (l.trans l2) (t.trans t2) s q
theorem Post.here {Q : VK} {QD : KQ} (p : Post K φ H Q QD) (s : SRel K φ S H) {v : V} {d : D} (r : Rep K φ H v d) (q : QD d S) : Q v H := p d S v H φ (Le.refl φ) (TupLe.refl H) s r q
theorem PostB.here {Q : Bool → Hp → Prop} {QD : KB} (p : PostB K φ H Q QD) (s : SRel K φ S H) {b : Bool} (q : QD b S) : Q b H := p b S H φ (Le.refl φ) (TupLe.refl H) s q
/-- a new tuple -/
theorem Post.tup {Q : VK} {QD : KQ} (p : Post K φ H Q QD) (s : SRel K φ S H) {vs : List V} {ds : List D} (r : RepL K φ H vs ds) (q : QD (.tup ds) S) {a : Addr} (h : H a = none) : Q (.ref a) (upd H a (.tup vs)) :=
  p _ S _ _ φ (Le.refl φ) (TupLe.new h) (s.new h) (.tup (SqT.of upd_same) (r.mono (Le.refl φ) (TupLe.new h))) q
/-- a new list -/
theorem Post.lst {Q : VK} {QD : KQ} (p : Post K φ H Q QD) (s : SRel K φ S H) {vs : List V} {ds : List D} (r : RepL K φ H vs ds) (q : QD (.ref S.length) (S ++ [.lst ds])) {a : Addr} (h : H a = none) : Q (.ref a) (upd H a (.lst vs)) :=
  p _ _ _ _ (φ ++ [a]) (Le.app φ [a]) (TupLe.new h) (s.alloc h r) (.ref s.idx) q

/-! ### readings over data -/
def rOp (K : PySem.W.Frag) (f : D → D → Sto → KQ → Prop) : R2 := fun x y H Q => ∃ (dx dy : D) (S : Sto) (φ : List Addr) (QD : KQ), Rep K φ H x dx ∧ Rep K φ H y dy ∧ SRel K φ S H ∧ f dx dy S QD ∧ Post K φ H Q QD
def rCp (K : PySem.W.Frag) (op : CmpOp) : R2 := fun x y H Q => ∃ (dx dy : D) (S : Sto) (φ : List Addr) (QD : KB), Rep K φ H x dx ∧ Rep K φ H y dy ∧ SRel K φ S H ∧ dCmp op dx dy S QD ∧ ∀ b, QD b S → Q (.bl b) H
end

section
variable {X : Cx} {φ : List Addr} {H : Hp} {S : Sto}
theorem opD (op : Operator) : OpR X (binaryOp op) (rOp X.K (dOp op)) := by
  intro pins s σ H x y v u Q I rx ry h
  obtain ⟨dx, dy, S, φ, QD, hx, hy, hs, hw, hp⟩ := h
  unfold dOp at hw
  split at hw
  · cases hx; cases hy
    exact op_add pins s σ H _ _ v u Q I rx ry ⟨_, _, rfl, rfl, hp.here hs (.int _) hw⟩
  · cases hx; cases hy
    exact op_sub pins s σ H _ _ v u Q I rx ry ⟨_, _, rfl, rfl, hp.here hs (.int _) hw⟩
  · cases hx; cases hy
    exact op_mul pins s σ H _ _ v u Q I rx ry ⟨_, _, rfl, rfl, hw.1, hp.here hs (.int _) hw.2⟩
  · cases hx; cases hy
    exact op_fdiv pins s σ H _ _ v u Q I rx ry ⟨_, _, rfl, rfl, hw.1, hp.here hs (.int _) hw.2⟩
  · cases hx; cases hy
    exact op_mod pins s σ H _ _ v u Q I rx ry ⟨_, _, rfl, rfl, hw.1, hp.here hs (.int _) hw.2⟩
  · cases hx; cases hy
    exact op_pow pins s σ H _ _ v u Q I rx ry ⟨_, _, rfl, rfl, hw.1, hp.here hs (.int _) hw.2⟩
  · cases hx; cases hy
    exact op_add_str pins s σ H _ _ v u Q I rx ry ⟨_, _, rfl, rfl, lim_le hw.1, hp.here hs (.str _) hw.2⟩
  · cases hx with
    | @tup a vs _ h1 r1 =>
      cases hy with
      | @tup b ws _ h2 r2 =>
        have e1 := r1.length
        have e2 := r2.length
        refine op_catA pins s σ H _ _ v u Q I rx ry ⟨a, b, vs, ws, rfl, rfl, h1, h2, lim_le (by rw [e1, e2]; exact hw.1), fun z => ?_, fun z z2 => ?_, fun _ _ p hpn => ?_⟩
        · subst z
          cases r1
          exact hp.here hs (.tup h2 r2) hw.2
        · subst z2
          cases r2
          have q := hw.2
          rw [List.append_nil] at q
          exact hp.here hs (.tup h1 r1) q
        · exact hp.tup hs (r1.app r2) hw.2 hpn
  · cases hx with
    | @ref a m hm =>
      cases hy with
      | @ref b n hn =>
        split at hw
        · rename_i xs ys e1 e2
          obtain ⟨vs, f1, r1⟩ := hs.ob _ _ _ hm e1
          obtain ⟨ws, f2, r2⟩ := hs.ob _ _ _ hn e2
          have l1 := r1.length
          have l2 := r2.length
          exact op_cat pins s σ H _ _ v u Q I rx ry ⟨a, b, vs, ws, rfl, rfl, f1, f2, lim_le (by rw [l1, l2]; exact hw.1), fun p hpn => hp.lst hs (r1.app r2) hw.2 hpn⟩
        · exact hw.elim
  · cases hx with
    | @ref a m hm =>
      cases hy
      split at hw
      · rename_i xs e1
        obtain ⟨vs, f1, r1⟩ := hs.ob _ _ _ hm e1
        have l1 := r1.length
        exact op_rep pins s σ H _ _ v u Q I rx ry ⟨a, _, vs, rfl, rfl, f1, hw.1.1, hw.1.2.1, lim_le (by rw [l1]; exact hw.1.2.2), fun p hpn => hp.lst hs (r1.rep _) hw.2 hpn⟩
      · exact hw.elim
  · cases hx with
    | @tup a vs _ h1 r1 =>
      cases hy
      have l1 := r1.length
      obtain ⟨⟨g1, g2, g3, g4⟩, g5⟩ := hw
      refine op_repT pins s σ H _ _ v u Q I rx ry ⟨a, _, vs, rfl, rfl, h1, fun z => ?_, g2, g3, by rw [l1]; exact g4, fun p hpn => hp.tup hs (r1.rep _) g5 hpn⟩
      subst z
      cases r1
      exact g1 rfl
  · exact hw.elim

theorem rep_none {K : PySem.W.Frag} {v : V} {d : D} (r : Rep K φ H v d) : decide (v = .non) = isNon d := by
  cases r <;> simp [isNon]
theorem cpD (op : CmpOp) (hu : X.A.units + 66 < cLine) : OpR X (compareOp op) (rCp X.K op) := by
  intro pins s σ H x y v u Q I rx ry h
  obtain ⟨dx, dy, S, φ, QD, hx, hy, hs, hw, hp⟩ := h
  cases op with
  | Eq =>
    obtain ⟨p, q, e1, e2, s1, s2, k⟩ := hw
    exact op_eqD (by omega) pins s σ H _ _ v u Q I rx ry ⟨p, q, dp_of hs _ _ _ _ hx e1, dp_of hs _ _ _ _ hy e2, s1, s2, hp _ k⟩
  | NotEq =>
    obtain ⟨p, q, e1, e2, s1, s2, k⟩ := hw
    exact op_neD (by omega) pins s σ H _ _ v u Q I rx ry ⟨p, q, dp_of hs _ _ _ _ hx e1, dp_of hs _ _ _ _ hy e2, s1, s2, hp _ k⟩
  | In =>
    obtain ⟨p, q, e1, e2, s1, s2, k⟩ := hw
    have hd := dp_of hs _ _ _ _ hx e1
    have he := dp_of hs _ _ _ _ hy e2
    rcases k with ⟨qs, rfl, k⟩ | ⟨qs, rfl, k⟩
    · obtain ⟨as, q1⟩ := Dp.reads I _ x v hd rx
      obtain ⟨bs, q2⟩ := Dp.reads I _ y u he ry
      have hroom : X.A.units + 1 + min (PyData.depthAll qs) p.depth < cLine := by
        have := SeqAt.depth_of_shaped s1
        omega
      exact SeqAt.in_tuple_reads q2 q1 (by have := SeqAt.canLay_of_shaped s2; simpa [PyData.canLay0] using this) (SeqAt.canLay_of_shaped s1) hroom ⟨.bl _, H, I, rfl, hp _ k⟩
    · exact op_inD (by omega) pins s σ H _ _ v u Q I rx ry ⟨p, qs, hd, he, s1, s2, hp _ k⟩
  | NotIn =>
    obtain ⟨p, q, e1, e2, s1, s2, k⟩ := hw
    have hd := dp_of hs _ _ _ _ hx e1
    have he := dp_of hs _ _ _ _ hy e2
    rcases k with ⟨qs, rfl, k⟩ | ⟨qs, rfl, k⟩
    · obtain ⟨as, q1⟩ := Dp.reads I _ x v hd rx
      obtain ⟨bs, q2⟩ := Dp.reads I _ y u he ry
      have hroom : X.A.units + 1 + min (PyData.depthAll qs) p.depth < cLine := by
        have := SeqAt.depth_of_shaped s1
        omega
      exact SeqAt.notIn_tuple_reads q2 q1 (by have := SeqAt.canLay_of_shaped s2; simpa [PyData.canLay0] using this) (SeqAt.canLay_of_shaped s1) hroom ⟨.bl _, H, I, rfl, hp _ k⟩
    · exact op_notInD (by omega) pins s σ H _ _ v u Q I rx ry ⟨p, qs, hd, he, s1, s2, hp _ k⟩
  | Lt =>
    simp only [dCmp] at hw
    split at hw
    · cases hx; cases hy
      exact op_lt pins s σ H _ _ v u Q I rx ry ⟨_, _, rfl, rfl, hp _ hw⟩
    · exact hw.elim
  | LtE =>
    simp only [dCmp] at hw
    split at hw
    · cases hx; cases hy
      exact op_le pins s σ H _ _ v u Q I rx ry ⟨_, _, rfl, rfl, hp _ hw⟩
    · exact hw.elim
  | Gt =>
    simp only [dCmp] at hw
    split at hw
    · cases hx; cases hy
      exact op_gt pins s σ H _ _ v u Q I rx ry ⟨_, _, rfl, rfl, hp _ hw⟩
    · exact hw.elim
  | GtE =>
    simp only [dCmp] at hw
    split at hw
    · cases hx; cases hy
      exact op_ge pins s σ H _ _ v u Q I rx ry ⟨_, _, rfl, rfl, hp _ hw⟩
    · exact hw.elim
  | Is =>
    simp only [dCmp] at hw
    split at hw
    · cases hy
      refine op_isN pins s σ H _ _ v u Q I rx ry ⟨rfl, ?_⟩
      rw [rep_none hx]
      exact hp _ hw
    · exact hw.elim
  | IsNot =>
    simp only [dCmp] at hw
    split at hw
    · cases hy
      refine op_notN pins s σ H _ _ v u Q I rx ry ⟨rfl, ?_⟩
      rw [rep_none hx]
      exact hp _ hw
    · exact hw.elim

theorem truD {K : PySem.W.Frag} {v : V} {d : D} {QB : KB} (s : SRel K φ S H) (r : Rep K φ H v d) (h : dTru d S QB) : ∃ k, TruV K v H k ∧ QB k S := by
  cases r with
  | non => exact ⟨false, rfl, h⟩
  | bl b => exact ⟨b, rfl, h⟩
  | int i => exact ⟨_, rfl, h⟩
  | str x => exact ⟨_, ⟨lim_le h.1, rfl⟩, h.2⟩
  | ty n => exact h.elim
  | @tup a vs ds h1 r1 =>
    have e : vs.isEmpty = ds.isEmpty := by cases r1 <;> rfl
    exact ⟨!vs.isEmpty, .inr (.inl ⟨vs, h1, rfl⟩), by rw [e]; exact h⟩
  | @rol a vs ds h1 r1 =>
    have e : vs.isEmpty = ds.isEmpty := by cases r1 <;> rfl
    exact ⟨!vs.isEmpty, .inl ⟨vs, h1.l, rfl⟩, by rw [e]; exact h⟩
  | @ref a n hn =>
    unfold dTru at h
    simp only at h
    split at h
    · rename_i xs e1
      obtain ⟨vs, f1, r1⟩ := s.ob _ _ _ hn e1
      have e : vs.isEmpty = xs.isEmpty := by cases r1 <;> rfl
      exact ⟨!vs.isEmpty, .inl ⟨vs, SqL.of f1, rfl⟩, by rw [e]; exact h⟩
    · exact h.elim

theorem atI_rep {K : PySem.W.Frag} {vs : List V} {ds : List D} {k : Int} {d : D} (r : RepL K φ H vs ds) (h : atI ds k = some d) : ∃ v, atI vs k = some v ∧ Rep K φ H v d := by
  unfold atI at h ⊢
  rw [r.length]
  cases e : ixN ds.length k with
  | none => rw [e] at h; cases h
  | some j =>
    rw [e] at h
    exact r.get h
theorem ixD : IxR X (rOp X.K dIdx) := by
  intro value slice pins s σ H x y v u Q I rx ry h hsb
  obtain ⟨dx, dy, S, φ, QD, hx, hy, hs, hw, hp⟩ := h
  unfold dIdx at hw
  split at hw
  · cases hy
    cases hx with
    | @tup a vs ds h1 r1 =>
      obtain ⟨w, e, q⟩ := hw
      obtain ⟨v', e', rv⟩ := atI_rep r1 e
      exact ix_tup value slice pins s σ H _ _ v u Q I rx ry ⟨a, vs, _, v', rfl, rfl, h1, e', hp.here hs rv q⟩ hsb
  · cases hy
    cases hx with
    | @rol a vs ds h1 r1 =>
      obtain ⟨w, e, q⟩ := hw
      obtain ⟨v', e', rv⟩ := atI_rep r1 e
      exact ix_list value slice pins s σ H _ _ v u Q I rx ry ⟨a, vs, _, v', rfl, rfl, h1.l, e', hp.here hs rv q⟩ hsb
  · cases hy
    cases hx with
    | @ref a n hn =>
      split at hw
      · rename_i xs e1
        obtain ⟨vs, f1, r1⟩ := hs.ob _ _ _ hn e1
        obtain ⟨w, e, q⟩ := hw
        obtain ⟨v', e', rv⟩ := atI_rep r1 e
        exact ix_list value slice pins s σ H _ _ v u Q I rx ry ⟨a, vs, _, v', rfl, rfl, SqL.of f1, e', hp.here hs rv q⟩ hsb
      · exact hw.elim
  · exact hw.elim

theorem cut_rep {K : PySem.W.Frag} {vs : List V} {ds : List D} (r : RepL K φ H vs ds) (lo hi : Option Int) : RepL K φ H (cutV vs lo hi) (cutD ds lo hi) := by
  unfold cutV cutD
  rw [r.length]
  exact (r.drop _).take _
theorem cut_whole {ds : List D} {lo hi : Option Int} (h : HT.sIx ds.length 0 lo = 0 ∧ HT.sIx ds.length ds.length hi = ds.length) : cutD ds lo hi = ds := by
  unfold cutD
  rw [h.1, h.2]
  simp
def rSl (K : PySem.W.Frag) : V → Option Int → Option Int → Hp → VK → Prop := fun x lo hi H Q => ∃ (dx : D) (S : Sto) (φ : List Addr) (QD : KQ), Rep K φ H x dx ∧ SRel K φ S H ∧ dSlc dx lo hi S QD ∧ Post K φ H Q QD
theorem slD : SlR X (rSl X.K) := by
  intro pins s σ H x v vl vu lo hi sl Q I rx hsl pl pu h
  obtain ⟨dx, S, φ, QD, hx, hs, hw, hp⟩ := h
  cases hx with
  | @tup a vs ds h1 r1 =>
    have e1 := r1.length
    refine sl_tupA pins s σ H _ v vl vu lo hi sl Q I rx hsl pl pu ⟨a, vs, rfl, h1, fun z => ?_, fun _ p hpn => hp.tup hs (cut_rep r1 lo hi) hw hpn⟩
    have q : QD (.tup (cutD ds lo hi)) S := hw
    rw [e1] at z
    rw [cut_whole z] at q
    exact hp.here hs (.tup h1 r1) q
  | @rol a vs ds h1 r1 =>
    exact sl_list pins s σ H _ v vl vu lo hi sl Q I rx hsl pl pu ⟨a, vs, rfl, h1.l, fun p hpn => hp.lst hs (cut_rep r1 lo hi) hw hpn⟩
  | @ref a n hn =>
    unfold dSlc at hw
    simp only at hw
    split at hw
    · rename_i xs e1
      obtain ⟨vs, f1, r1⟩ := hs.ob _ _ _ hn e1
      exact sl_list pins s σ H _ v vl vu lo hi sl Q I rx hsl pl pu ⟨a, vs, rfl, SqL.of f1, fun p hpn => hp.lst hs (cut_rep r1 lo hi) hw hpn⟩
    · exact hw.elim
  | non => exact hw.elim
  | bl b => exact hw.elim
  | int i => exact hw.elim
  | str z => exact hw.elim
  | ty n => exact hw.elim

/-! ### built-ins -/
theorem items_rep {K : PySem.W.Frag} {v : V} {d : D} {xs : List D} (s : SRel K φ S H) (r : Rep K φ H v d) (h : items S d = some xs) : ∃ a vs, v = .ref a ∧ (SqL K H a vs ∨ SqT K H a vs) ∧ RepL K φ H vs xs := by
  cases r with
  | @tup a vs ds h1 r1 => cases h; exact ⟨a, vs, rfl, .inr h1, r1⟩
  | @rol a vs ds h1 r1 => cases h; exact ⟨a, vs, rfl, .inl h1.l, r1⟩
  | @ref a n hn =>
    unfold items at h
    simp only at h
    split at h
    · rename_i ys e1
      cases h
      obtain ⟨vs, f1, r1⟩ := s.ob _ _ _ hn e1
      exact ⟨a, vs, rfl, .inl (SqL.of f1), r1⟩
    · cases h
  | non => cases h
  | bl b => cases h
  | int i => cases h
  | str z => cases h
  | ty n => cases h
theorem bools_rep {K : PySem.W.Frag} : ∀ {ds : List D} {vs : List V} {bs : List Bool}, RepL K φ H vs ds → bools ds = some bs → vs = bs.map V.bl
  | [], _, _, .nil, h => by cases h; rfl
  | d :: ds, _, bs, .cons r t, h => by
    cases d with
    | bl b =>
      cases r
      simp only [bools] at h
      cases e : bools ds with
      | none => rw [e] at h; cases h
      | some cs => rw [e] at h; cases h; rw [bools_rep t e]; rfl
    | _ => cases h
theorem ty_rep {K : PySem.W.Frag} {v : V} {d : D} (s : SRel K φ S H) (r : Rep K φ H v d) (h : ∀ n, d ≠ .ty n) (hS : ∀ n, d = .ref n → n < S.length) : TyX K H v (.type (tyOf d)) := by
  cases r with
  | non => exact .base .non
  | bl b => exact .base (.bl b)
  | int i => exact .base (.int i)
  | str z => exact .base (.str z)
  | ty n => exact absurd rfl (h n)
  | @tup a vs ds h1 r1 =>
    rcases h1 with (h1 | ⟨o, h1⟩) | ⟨o, its, n, hk, hc, _⟩
    · exact .base (.tup h1)
    · exact .fTuple h1
    · exact .kTuple hk hc
  | @rol a vs ds h1 r1 =>
    rcases h1 with ⟨o, h1⟩ | ⟨o, its, n, hk, hc, _⟩
    · exact .base (.frz h1)
    · exact .kList hk hc
  | @ref a n hn =>
    have hl := hS n rfl
    have e : S[n]? = some (S[n]'hl) := List.getElem?_eq_getElem _
    cases eo : S[n]'hl with
    | lst ds =>
      rw [eo] at e
      obtain ⟨vs, f1, r1⟩ := s.ob _ _ _ hn e
      exact .base (.lst f1)
def rBl (K : PySem.W.Frag) (f : Bn) : List V → Hp → VK → Prop := fun vs H Q => ∃ (ds : List D) (S : Sto) (φ : List Addr) (QD : KQ), RepL K φ H vs ds ∧ SRel K φ S H ∧ dBlt f ds S QD ∧ Post K φ H Q QD
def bnV : Bn → Value
  | .len => .builtin "len" | .isinst => .builtin "isinstance" | .all => .builtin "all" | .any => .builtin "any" | .abs => .builtin "abs" | .int => .type "int" | .min2 => .builtin "min" | .max2 => .builtin "max" | .list => .type "list" | .tuple => .type "tuple" | .sum => .builtin "sum"
theorem ref_lt {K : PySem.W.Frag} {a : Addr} {n : Nat} (s : SRel K φ S H) (h : φ[n]? = some a) : n < S.length := by rw [← s.len]; exact (List.getElem?_eq_some_iff.mp h).1
theorem repL1 {K : PySem.W.Frag} {vs : List V} {d : D} (r : RepL K φ H vs [d]) : ∃ v, vs = [v] ∧ Rep K φ H v d := by
  cases r with
  | cons r t => cases t; exact ⟨_, rfl, r⟩
theorem repL2 {K : PySem.W.Frag} {vs : List V} {d e : D} (r : RepL K φ H vs [d, e]) : ∃ v w, vs = [v, w] ∧ Rep K φ H v d ∧ Rep K φ H w e := by
  cases r with
  | cons r t => cases t with
    | cons r2 t2 => cases t2; exact ⟨_, _, rfl, r, r2⟩
theorem int1 {v : V} {d : D} {K : PySem.W.Frag} {k : Int → Prop} (r : Rep K φ H v d) (h : dInt1 d k) : ∃ i, v = .int i ∧ k i := by
  cases r with
  | int i => exact ⟨i, rfl, h⟩
  | _ => exact False.elim h
theorem bools1 {v : V} {d : D} {K : PySem.W.Frag} {k : List Bool → Prop} (s : SRel K φ S H) (r : Rep K φ H v d) (h : dBools d S k) : ∃ a bs, v = .ref a ∧ SqL K H a (bs.map V.bl) ∧ k bs := by
  cases r with
  | @ref a n hn =>
    simp only [dBools] at h
    split at h
    · rename_i xs e
      split at h
      · rename_i bs e2
        obtain ⟨vs, f1, r1⟩ := s.ob _ _ _ hn e
        have := bools_rep r1 e2
        subst this
        exact ⟨a, bs, rfl, SqL.of f1, h⟩
      · exact h.elim
    · exact h.elim
  | _ => exact False.elim h
theorem ints_vs {K : PySem.W.Frag} : ∀ {xs : List D} {vs : List V} {is : List Int}, RepL K φ H vs xs → allI xs = some is → vs = is.map V.int
  | [], _, _, r, e => by cases r; cases e; rfl
  | d :: ds, _, _, r, e => by
    cases r with
    | cons r t =>
      cases d with
      | int i =>
        simp only [allI, Option.map_eq_some_iff] at e
        obtain ⟨js, e, rfl⟩ := e
        cases r
        rw [ints_vs t e]
        rfl
      | _ => cases e
theorem ints1 {v : V} {d : D} {K : PySem.W.Frag} {k : List Int → Prop} (s : SRel K φ S H) (r : Rep K φ H v d) (h : dInts d S k) : ∃ a is, v = .ref a ∧ SqL K H a (is.map V.int) ∧ k is := by
  cases r with
  | @ref a n hn =>
    simp only [dInts] at h
    split at h
    · rename_i xs e
      split at h
      · rename_i is e2
        obtain ⟨vs, f1, r1⟩ := s.ob _ _ _ hn e
        have := ints_vs r1 e2
        subst this
        exact ⟨a, is, rfl, SqL.of f1, h⟩
      · exact h.elim
    · exact h.elim
  | @rol a vs ds h1 r1 =>
    simp only [dInts] at h
    split at h
    · rename_i is e2
      have := ints_vs r1 e2
      subst this
      exact ⟨a, is, rfl, h1.l, h⟩
    · exact h.elim
  | _ => exact False.elim h
theorem items1 {v : V} {d : D} {K : PySem.W.Frag} {k : List D → Prop} (s : SRel K φ S H) (r : Rep K φ H v d) (h : dItems d S k) : ∃ a vs xs, v = .ref a ∧ ((SqL K H a vs ∧ ∀ ys, d ≠ .tup ys) ∨ (SqT K H a vs ∧ d = .tup xs)) ∧ RepL K φ H vs xs ∧ k xs := by
  unfold dItems at h
  split at h
  · rename_i xs e
    cases r with
    | @tup a vs ds h1 r1 => cases e; exact ⟨a, vs, _, rfl, .inr ⟨h1, rfl⟩, r1, h⟩
    | @rol a vs ds h1 r1 => cases e; exact ⟨a, vs, _, rfl, .inl ⟨h1.l, fun _ z => by cases z⟩, r1, h⟩
    | @ref a n hn =>
      unfold items at e
      simp only at e
      split at e
      · rename_i ys e1
        cases e
        obtain ⟨vs, f1, r1⟩ := s.ob _ _ _ hn e1
        exact ⟨a, vs, _, rfl, .inl ⟨SqL.of f1, fun _ z => by cases z⟩, r1, h⟩
      · cases e
    | _ => cases e
  · exact h.elim
theorem bltD (hc : X.calm = true) (f : Bn) : CallR X (bnV f) (rBl X.K f) := by
  intro pins s σ H vs us Q I r h
  obtain ⟨ds, S, φ, QD, hr, hs, hw, hp⟩ := h
  match ds, hr, hw with
  | [], hr, hw => exact False.elim hw
  | _ :: _ :: _ :: _, hr, hw => exact False.elim hw
  | [x], hr, hw =>
    obtain ⟨v, rfl, rv⟩ := repL1 hr
    cases f with
    | len =>
      have hw : dLen x S QD := hw
      have seq : ∀ xs, items S x = some xs → QD (.int xs.length) S → wpAny (model X.prog X.w) X.A (call (bnV .len) us) (EP X pins σ Q) X.xe s := fun xs e q => by
        obtain ⟨a, ws, rfl, hq, rl⟩ := items_rep (xs := xs) hs rv e
        exact call_len_seq pins s σ H _ us Q I r ⟨a, ws, rfl, hq, by rw [rl.length]; exact hp.here hs (.int _) q⟩
      cases x with
      | str z =>
        cases rv
        obtain ⟨h1, h2⟩ := hw
        exact call_len_str pins s σ H _ us Q I r ⟨z, rfl, lim_le h1, hp.here hs (.int _) h2⟩
      | non => exact False.elim hw
      | bl b => exact False.elim hw
      | int i => exact False.elim hw
      | ty n => exact False.elim hw
      | tup xs => exact seq xs rfl hw
      | rol xs => exact seq xs rfl hw
      | ref n =>
        simp only [dLen] at hw
        split at hw
        · rename_i xs e
          exact seq xs e hw
        · exact False.elim hw
    | all =>
      obtain ⟨a, bs, rfl, hq, k⟩ := bools1 hs rv (show dBools x S _ from hw)
      exact cr_all hc pins s σ H _ us Q I r ⟨a, bs, rfl, hq, hp.here hs (.bl _) k⟩
    | any =>
      obtain ⟨a, bs, rfl, hq, k⟩ := bools1 hs rv (show dBools x S _ from hw)
      exact cr_any hc pins s σ H _ us Q I r ⟨a, bs, rfl, hq, hp.here hs (.bl _) k⟩
    | abs =>
      obtain ⟨i, rfl, k⟩ := int1 rv (show dInt1 x _ from hw)
      exact call_abs pins s σ H _ us Q I r ⟨i, rfl, hp.here hs (.int _) k⟩
    | int =>
      obtain ⟨i, rfl, k⟩ := int1 rv (show dInt1 x _ from hw)
      exact call_int1 pins s σ H _ us Q I r (.inl ⟨i, rfl, hp.here hs (.int _) k⟩)
    | list =>
      obtain ⟨a, ws, xs, rfl, hq, rl, k⟩ := items1 hs rv (show dItems x S _ from hw)
      exact call_list_of pins s σ H _ us Q I r ⟨a, ws, rfl, hq.elim (fun z => .inl z.1) (fun z => .inr z.1), fun l hl => hp.lst hs rl k hl⟩
    | tuple =>
      obtain ⟨a, ws, xs, rfl, hq, rl, k⟩ := items1 hs rv (show dItems x S _ from hw)
      rcases hq with ⟨hq, _⟩ | ⟨hq, e⟩
      · exact call_tuple_of pins s σ H _ us Q I r ⟨a, ws, rfl, .inl ⟨hq, fun l hl => hp.tup hs rl k hl⟩⟩
      · exact call_tuple_of pins s σ H _ us Q I r ⟨a, ws, rfl, .inr ⟨hq, hp.here hs (.tup hq rl) k⟩⟩
    | sum =>
      obtain ⟨a, is, rfl, hq, k⟩ := ints1 hs rv (show dInts x S _ from hw)
      exact cr_sum hc pins s σ H _ us Q I r ⟨a, is, rfl, hq, hp.here hs (.int _) k⟩
    | isinst => exact False.elim hw
    | min2 => exact False.elim hw
    | max2 => exact False.elim hw
  | [x, y], hr, hw =>
    obtain ⟨v, w, rfl, rv, rw'⟩ := repL2 hr
    cases f with
    | isinst =>
      have hw : dIsi x y S QD := hw
      unfold dIsi at hw
      split at hw
      · cases rw'
        obtain ⟨h1, h2⟩ := hw
        split at h2
        · rename_i b e
          refine call_isi pins s σ H _ us Q I r ⟨v, .ty _, .type (tyOf x), .type _, b, rfl, .ty _, ty_rep hs rv (fun n e => ?_) (fun n e => ?_), kit_ty e, hp.here hs (.bl b) h2⟩
          · subst e; exact h1
          · subst e
            cases rv with
            | ref hn => exact ref_lt hs hn
        · exact h2.elim
      · exact hw.elim
    | min2 =>
      obtain ⟨i, rfl, k⟩ := int1 rv (show dInt1 x _ from hw)
      obtain ⟨j, rfl, k⟩ := int1 rw' k
      exact call_min2 hc pins s σ H _ us Q I r ⟨i, j, rfl, hp.here hs (.int _) k⟩
    | max2 =>
      obtain ⟨i, rfl, k⟩ := int1 rv (show dInt1 x _ from hw)
      obtain ⟨j, rfl, k⟩ := int1 rw' k
      exact call_max2 hc pins s σ H _ us Q I r ⟨i, j, rfl, hp.here hs (.int _) k⟩
    | len => exact False.elim hw
    | all => exact False.elim hw
    | any => exact False.elim hw
    | abs => exact False.elim hw
    | int => exact False.elim hw
    | list => exact False.elim hw
    | tuple => exact False.elim hw
    | sum => exact False.elim hw
theorem appD : MtR X "list.append" (fun x xs H Q => ∃ (dx dy : D) (y : V) (S : Sto) (φ : List Addr) (QD : KQ), xs = [y] ∧ Rep X.K φ H x dx ∧ Rep X.K φ H y dy ∧ SRel X.K φ S H ∧ dApp dx dy S QD ∧ Post X.K φ H Q QD) := by
  intro pins s σ H x xs v us Q I rx rs h
  obtain ⟨dx, dy, y, S, φ, QD, rfl, hx, hy, hs, hw, hp⟩ := h
  unfold dApp at hw
  split at hw
  · cases hx with
    | @ref a n hn =>
      split at hw
      · rename_i ds e
        obtain ⟨vs, f1, r1⟩ := hs.ob _ _ _ hn e
        have e1 := r1.length
        refine mt_append pins s σ H _ _ v us Q I rx rs ⟨a, vs, y, rfl, rfl, f1, lim_lt (by rw [e1]; exact hw.1), ?_⟩
        exact hp _ _ _ _ φ (Le.refl φ) (TupLe.mut f1) (hs.put hn f1 (r1.app (.cons hy .nil))) .non hw.2
      · exact hw.elim
  · exact hw.elim
theorem setD : PSet X (fun o i v H Q => ∃ (dx di dv : D) (S : Sto) (φ : List Addr) (QS : Sto → Prop), Rep X.K φ H o dx ∧ Rep X.K φ H i di ∧ Rep X.K φ H v dv ∧ SRel X.K φ S H ∧ dSet dx di dv S QS ∧ ∀ S' H', TupLe H H' → SRel X.K φ S' H' → QS S' → Q H') := by
  intro pins s σ H o i v ov iv u Q I ro ri rv h
  obtain ⟨dx, di, dv, S, φ, QS, hx, hi, hv, hs, hw, hp⟩ := h
  unfold dSet at hw
  split at hw
  · cases hi
    cases hx with
    | @ref a n hn =>
      split at hw
      · rename_i ds e
        obtain ⟨vs, f1, r1⟩ := hs.ob _ _ _ hn e
        obtain ⟨j, e2, q⟩ := hw
        refine set_list pins s σ H _ _ v ov iv u Q I ro ri rv ⟨a, vs, _, j, rfl, rfl, f1, by rw [r1.length]; exact e2, ?_⟩
        exact hp _ _ (TupLe.mut f1) (hs.put hn f1 (r1.set j hv)) q
      · exact hw.elim
  · exact hw.elim
end
end DW

set_option Elab.async false
set_option linter.all false
set_option maxRecDepth 100000
set_option maxHeartbeats 2000000
/-! the small language means what the program's text means -/
namespace DW
open PySem PySem.Spec PyProof.Rows L2

theorem _root_.L2.PE.sub {X : Cx} {e : Expr} {t t' : TE} (h : PE X e t) (i : ∀ σ H Q, t' σ H Q → t σ H Q) : PE X e t' := ⟨fun pins s σ H Q I q => h.run pins s σ H Q I (i σ H Q q)⟩
theorem _root_.L2.PT.sub {X : Cx} {e : Expr} {t t' : TT} (h : PT X e t) (i : ∀ σ H Q, t' σ H Q → t σ H Q) : PT X e t' := ⟨fun pins s σ H Q I q => h.run pins s σ H Q I (i σ H Q q)⟩
theorem _root_.L2.PW.sub {X : Cx} {e : Expr} {t t' : TT} (h : PW X e t) (i : ∀ σ H Q, t' σ H Q → t σ H Q) : PW X e t' := ⟨fun wh pins s σ H Q I q => h.run wh pins s σ H Q I (i σ H Q q)⟩
theorem _root_.L2.PA.sub {X : Cx} {e : List Expr} {t t' : TA} (h : PA X e t) (i : ∀ σ H Q, t' σ H Q → t σ H Q) : PA X e t' := ⟨fun pos pins s σ H Q I q => h.run pos pins s σ H Q I (i σ H Q q)⟩
theorem _root_.L2.PO.sub {X : Cx} {e : Option Expr} {t t' : TO} (h : PO X e t) (i : ∀ σ H Q, t' σ H Q → t σ H Q) : PO X e t' := ⟨fun pins s σ H Q I q => h.run pins s σ H Q I (i σ H Q q)⟩
theorem _root_.L2.PG.sub {X : Cx} {e : Expr} {t t' : TG} (h : PG X e t) (i : ∀ v σ H Q, t' v σ H Q → t v σ H Q) : PG X e t' := ⟨fun pins s σ H v u Q I r q => h.run pins s σ H v u Q I r (i v σ H Q q)⟩
theorem _root_.L2.PGs.sub {X : Cx} {e : List Expr} {t t' : TGs} (h : PGs X e t) (i : ∀ v σ H Q, t' v σ H Q → t v σ H Q) : PGs X e t' := ⟨fun pins s σ H v u Q I r q => h.run pins s σ H v u Q I r (i v σ H Q q)⟩
theorem _root_.L2.PS.sub {X : Cx} {e : Stmt} {t t' : TS} (h : PS X e t) (i : ∀ D σ H, t' D σ H → t D σ H) : PS X e t' := ⟨fun pins s σ H D I q => h.run pins s σ H D I (i D σ H q)⟩
theorem _root_.L2.PSs.sub {X : Cx} {e : List Stmt} {t t' : TS} (h : PSs X e t) (i : ∀ D σ H, t' D σ H → t D σ H) : PSs X e t' := ⟨fun pins s σ H D I q => h.run pins s σ H D I (i D σ H q)⟩
theorem _root_.L2.PI.sub {X : Cx} {tg e : Expr} {t t' : TI} (h : PI X tg e t) (i : ∀ σ H R, t' σ H R → t σ H R) : PI X tg e t' := ⟨fun pins s σ H R I q => h.run pins s σ H R I (i σ H R q)⟩

/-- a def's promise over data -/
def spD (K : PySem.W.Frag) (sp : FSp) : Sp := fun vs H Q _ => ∃ (ds : List D) (S : Sto) (φ : List Addr) (QD : KQ), RepL K φ H vs ds ∧ SRel K φ S H ∧ sp ds S QD ∧ Post K φ H Q QD

/-- a def that can be called -/
structure Callable (X : Cx) (x : Str) (sp : FSp) : Prop where
  ex : ∃ (f : Addr) (fd : FuncData) (ps : List Str) (k : Nat), FnOk X.prog X.w X.K X.mg X.base CX0 k f fd ps (spD X.K sp) ∧ Room k X.A ∧ X.mg x = some (.ref f) ∧ PySem.W.keepIn X.K (.ref f) = true ∧ Binds X.K fd ps []

structure CxOk (fs : List FSp) (X : Cx) (C : Ctx) : Prop where
  hN : X.N = C.N
  nd : X.N.Nodup
  sc : X.env.scope = C.sc
  calm : X.calm = true
  fnc : ∀ x, (match C.blk with | none => true | some s => s.names.lookup x == some .cell) = true → X.fn x = true
  un : X.A.units + 66 < cLine
  con : ∀ x d, C.con.lookup x = some d → ∃ v u, X.mg x = some u ∧ RelV v u ∧ ∀ φ H, Rep X.K φ H v d
  fns : ∀ (i : Nat) (x : Str), C.fn[i]? = some x → ∃ sp, fs[i]? = some sp ∧ Callable X x sp
  bns : ∀ x, C.bn.contains x = true → X.mg x = none
  xe : X.xe = fun _ _ => False

section
variable (fs : List FSp) (K : PySem.W.Frag)
def sE (e : IE) : TE := fun σ H Q => ∃ (ρ : En) (S : Sto) (φ : List Addr) (QD : KQ), EnvRel K φ H ρ σ ∧ SRel K φ S H ∧ wE fs e ρ S QD ∧ Post K φ H Q QD
def sT (e : IT) : TT := fun σ H Q => ∃ (ρ : En) (S : Sto) (φ : List Addr) (QD : KB), EnvRel K φ H ρ σ ∧ SRel K φ S H ∧ wT fs e ρ S QD ∧ PostB K φ H Q QD
def sTs (e : ITs) : TT := fun σ H Q => ∃ (ρ : En) (S : Sto) (φ : List Addr) (QD : KB), EnvRel K φ H ρ σ ∧ SRel K φ S H ∧ wTs fs e ρ S QD ∧ PostB K φ H Q QD
def sA (e : IA) : TA := fun σ H Q => ∃ (ρ : En) (S : Sto) (φ : List Addr) (QD : KL), EnvRel K φ H ρ σ ∧ SRel K φ S H ∧ wA fs e ρ S QD ∧ PostL K φ H Q QD
def sO (e : IO) : TO := fun σ H Q => ∃ (ρ : En) (S : Sto) (φ : List Addr) (QD : Option Int → Sto → Prop), EnvRel K φ H ρ σ ∧ SRel K φ S H ∧ wO fs e ρ S QD ∧ PostO K φ H Q QD
/-- what is wanted behind a store -/
def PostG (φ : List Addr) (H : Hp) (σ : L2.St) (slots : List Nat) (Q : L2.St → Hp → Prop) (QD : En → Sto → Prop) : Prop :=
  ∀ (ρ' : En) (S' : Sto) (σ' : L2.St) (H' : Hp) (φ' : List Addr), Le φ φ' → TupLe H H' → EnvRel K φ' H' ρ' σ' → SRel K φ' S' H' → Only σ σ' slots → QD ρ' S' → Q σ' H'
def sG (g : IG) : TG := fun v σ H Q => ∃ (d : D) (ρ : En) (S : Sto) (φ : List Addr) (QD : En → Sto → Prop), Rep K φ H v d ∧ EnvRel K φ H ρ σ ∧ SRel K φ S H ∧ wG fs g d ρ S QD ∧ PostG K φ H σ (gSlots g) Q QD
def sGs (g : IGs) : TGs := fun vs σ H Q => ∃ (ds : List D) (ρ : En) (S : Sto) (φ : List Addr) (QD : En → Sto → Prop), RepL K φ H vs ds ∧ EnvRel K φ H ρ σ ∧ SRel K φ S H ∧ wGs fs g ds ρ S QD ∧ PostG K φ H σ (gsSlots g) Q QD
/-- an iterator that walks these data -/
def Walks (φ₁ : List Addr) (H₁ : Hp) (J : It) (ds : List D) (chk : Sto → Prop) : Prop :=
  ∀ (i : Nat) (S : Sto) (φ : List Addr) (H : Hp), Le φ₁ φ → TupLe H₁ H → SRel K φ S H → chk S →
    (∀ d, ds[i]? = some d → J.go i H ∧ ∀ x H', J.yld i H x H' → TupLe H H' ∧ SRel K φ S H' ∧ Rep K φ H' x d) ∧ (ds.length ≤ i → J.stop i H)
def sI (it : II) : TI := fun σ H R => ∃ (ρ : En) (S : Sto) (φ : List Addr) (QD : KI), EnvRel K φ H ρ σ ∧ SRel K φ S H ∧ wI fs it ρ S QD ∧
  ∀ (ds : List D) (chk : Sto → Prop) (S' : Sto) (J : It) (H' : Hp) (φ' : List Addr), Le φ φ' → TupLe H H' → SRel K φ' S' H' → Walks K φ' H' J ds chk → QD ds chk S' → R J H'
/-- what is wanted behind a statement -/
structure PostS (φ : List Addr) (H : Hp) (D : Ends) (E : DEnds) : Prop where
  nx : ∀ (ρ' : En) (S' : Sto) (σ' : L2.St) (H' : Hp) (φ' : List Addr), Le φ φ' → TupLe H H' → EnvRel K φ' H' ρ' σ' → SRel K φ' S' H' → E.nx ρ' S' → D.nx σ' H'
  rt : Post K φ H D.rt E.rt
  bk : ∀ (ρ' : En) (S' : Sto) (σ' : L2.St) (H' : Hp) (φ' : List Addr), Le φ φ' → TupLe H H' → EnvRel K φ' H' ρ' σ' → SRel K φ' S' H' → E.bk ρ' S' → D.bk σ' H'
  ct : ∀ (ρ' : En) (S' : Sto) (σ' : L2.St) (H' : Hp) (φ' : List Addr), Le φ φ' → TupLe H H' → EnvRel K φ' H' ρ' σ' → SRel K φ' S' H' → E.ct ρ' S' → D.ct σ' H'
def sS (s : IS) : TS := fun D σ H => ∃ (ρ : En) (S : Sto) (φ : List Addr) (E : DEnds), EnvRel K φ H ρ σ ∧ SRel K φ S H ∧ wS fs s E ρ S ∧ PostS K φ H D E
def sB (s : IB) : TS := fun D σ H => ∃ (ρ : En) (S : Sto) (φ : List Addr) (E : DEnds), EnvRel K φ H ρ σ ∧ SRel K φ S H ∧ wB fs s E ρ S ∧ PostS K φ H D E
end
theorem PostG.mono {K : PySem.W.Frag} {φ φ' : List Addr} {H H' : Hp} {σ : L2.St} {sl : List Nat} {Q : L2.St → Hp → Prop} {QD : En → Sto → Prop} (p : PostG K φ H σ sl Q QD) (l : Le φ φ') (t : TupLe H H') : PostG K φ' H' σ sl Q QD :=
  fun ρ' S' σ' H2 φ2 l2 t2 r s o q => p ρ' S' σ' H2 φ2 (l.trans l2) (t.trans t2) r s o q
theorem PostS.mono {K : PySem.W.Frag} {φ φ' : List Addr} {H H' : Hp} {D : Ends} {E : DEnds} (p : PostS K φ H D E) (l : Le φ φ') (t : TupLe H H') : PostS K φ' H' D E :=
  ⟨fun ρ' S' σ' H2 φ2 l2 t2 r s q => p.nx ρ' S' σ' H2 φ2 (l.trans l2) (t.trans t2) r s q, p.rt.mono l t, fun ρ' S' σ' H2 φ2 l2 t2 r s q => p.bk ρ' S' σ' H2 φ2 (l.trans l2) (t.trans t2) r s q, fun ρ' S' σ' H2 φ2 l2 t2 r s q => p.ct ρ' S' σ' H2 φ2 (l.trans l2) (t.trans t2) r s q⟩

section
variable {fs : List FSp} {X : Cx} {C : Ctx} {e a b c : Expr} {x y z : IE} {p : Pos}

/-! ### expressions -/
theorem snd_var {i : Nat} {n : Str} (ok : CxOk fs X C) (h : idxOf C.N n = some i) (hk : C.kind n = some .local ∨ C.kind n = some .cell ∨ C.kind n = some .free) (hn : okName n = true) : PE X (.Name n p) (sE fs X.K (.var i)) := by
  have hv : Vis X.env.scope n := by rw [ok.sc]; exact hk
  unfold okName at hn
  simp only [Bool.and_eq_true, Bool.not_eq_true'] at hn
  refine (pe_var (i := i) (by rw [ok.hN]; exact idxOf_get h) hv hn.1.1 hn.1.2).sub fun σ H Q q => ?_
  obtain ⟨ρ, S, φ, QD, he, hs, hw, hp⟩ := q
  simp only [wE] at hw
  split at hw
  · rename_i d e
    obtain ⟨v, e1, r⟩ := he.at_ _ _ e
    exact ⟨v, e1, hp.here hs r hw⟩
  · exact hw.elim
theorem snd_cst {d : D} {v : V} (h : PE X e (tC v)) (r : ∀ φ H, Rep X.K φ H v d) : PE X e (sE fs X.K (.cst d)) :=
  h.sub fun σ H Q ⟨ρ, S, φ, QD, he, hs, hw, hp⟩ => hp.here hs (r φ H) hw
theorem snd_const {cc : Const} {d : D} {k : Nat} (h : constD cc = some d) : PE X (.Constant cc k p) (sE fs X.K (.cst d)) := by
  cases cc with
  | none => cases h; exact snd_cst pe_non fun _ _ => .non
  | bool b => cases h; exact snd_cst pe_bl fun _ _ => .bl b
  | int i => cases h; exact snd_cst pe_int fun _ _ => .int i
  | str i => cases h; exact snd_cst pe_str fun _ _ => .str i
  | _ => cases h
theorem snd_con {n : Str} {d : D} (ok : CxOk fs X C) (hk : C.kind n = some .globalImplicit) (h : C.con.lookup n = some d) (hn : okName n = true) : PE X (.Name n p) (sE fs X.K (.cst d)) := by
  obtain ⟨v, u, hm, r, q⟩ := ok.con n d h
  unfold okName at hn
  simp only [Bool.and_eq_true, Bool.not_eq_true'] at hn
  exact snd_cst (pe_glob (by show X.env.scope.names.lookup n = _; rw [ok.sc]; exact hk) hm r hn.1.1) q
theorem ty_boot {n : Str} {t : String} (h : tyName n = some t) : bootBuiltins n = some (.type t) := by
  unfold tyName at h
  repeat' split at h
  all_goals first
    | (rename_i e; subst e; cases h; decide +kernel)
    | cases h
theorem ok_name {n : Str} (hn : okName n = true) : n ≠ "__name__" ∧ (n == ("__debug__" : Str)) = false := by
  unfold okName at hn
  simp only [Bool.and_eq_true, Bool.not_eq_true'] at hn
  exact ⟨by simpa using hn.2, hn.1.1⟩
theorem snd_ty {n : Str} {t : String} (ok : CxOk fs X C) (hk : C.kind n = some .globalImplicit) (hb : C.bn.contains n = true) (h : tyName n = some t) (hn : okName n = true) : PE X (.Name n p) (sE fs X.K (.cst (.ty t))) := by
  obtain ⟨h1, h2⟩ := ok_name hn
  exact snd_cst (pe_bltn (v := .ty t) (by show X.env.scope.names.lookup n = _; rw [ok.sc]; exact hk) (ok.bns n hb) (ty_boot h) rfl h1 h2) fun _ _ => .ty t

theorem snd_tup {es : List Expr} {k : Nat} {as : IA} (h : PA X es (sA fs X.K as)) : PE X (.Tuple es k p) (sE fs X.K (.tup as)) := by
  refine (pe_tup h).sub fun σ H Q ⟨ρ, S, φ, QD, he, hs, hw, hp⟩ => ?_
  refine ⟨ρ, S, φ, _, he, hs, hw, fun ds S1 vs H1 φ1 l t s r q => ?_⟩
  exact ⟨by rw [r.length]; exact lim_le q.1, fun a ha => (hp.mono l t).tup s r q.2 ha⟩
theorem snd_lst {es : List Expr} {as : IA} (h : PA X es (sA fs X.K as)) : PE X (.List es p) (sE fs X.K (.lst as)) := by
  refine (pe_lst h).sub fun σ H Q ⟨ρ, S, φ, QD, he, hs, hw, hp⟩ => ?_
  refine ⟨ρ, S, φ, _, he, hs, hw, fun ds S1 vs H1 φ1 l t s r q => ?_⟩
  exact ⟨by rw [r.length]; exact lim_le q.1, fun a ha => (hp.mono l t).lst s r q.2 ha⟩
theorem snd_anil : PA X [] (sA fs X.K .nil) :=
  pa_nil.sub fun σ H Q ⟨ρ, S, φ, QD, he, hs, hw, hp⟩ => hp [] S [] H φ (Le.refl φ) (TupLe.refl H) hs .nil hw
theorem snd_acons {es : List Expr} {as : IA} (h : PE X e (sE fs X.K x)) (hr : PA X es (sA fs X.K as)) (hs : starEach (e :: es) X.env = (false, eval e X.env) :: starEach es X.env) : PA X (e :: es) (sA fs X.K (.cons x as)) := by
  refine (pa_cons h hr hs).sub fun σ H Q ⟨ρ, S, φ, QD, he, hs, hw, hp⟩ => ?_
  refine ⟨ρ, S, φ, _, he, hs, hw, fun d S1 v H1 φ1 l t s r q => ?_⟩
  refine ⟨ρ, S1, φ1, _, he.mono l t, s, q, fun ds S2 vs H2 φ2 l2 t2 s2 r2 q2 => ?_⟩
  exact hp _ _ _ _ φ2 (l.trans l2) (t.trans t2) s2 (.cons (r.mono l2 t2) r2) q2
/-- two parts, one behind the other -/
theorem two {σ : L2.St} {H : Hp} {ρ : En} {S : Sto} {φ : List Addr} {QD : D → D → Sto → Prop} {R : V → V → Hp → Prop} (he : EnvRel X.K φ H ρ σ) (hs : SRel X.K φ S H) (hw : wE fs x ρ S fun dx S1 => wE fs y ρ S1 fun dy S2 => QD dx dy S2)
    (k : ∀ dx dy S2 vx vy H2 φ2, Le φ φ2 → TupLe H H2 → SRel X.K φ2 S2 H2 → Rep X.K φ2 H2 vx dx → Rep X.K φ2 H2 vy dy → QD dx dy S2 → R vx vy H2) :
    sE fs X.K x σ H fun vx H1 => sE fs X.K y σ H1 fun vy H2 => R vx vy H2 :=
  ⟨ρ, S, φ, _, he, hs, hw, fun dx S1 vx H1 φ1 l t s r q => ⟨ρ, S1, φ1, _, he.mono l t, s, q, fun dy S2 vy H2 φ2 l2 t2 s2 r2 q2 => k dx dy S2 vx vy H2 φ2 (l.trans l2) (t.trans t2) s2 (r.mono l2 t2) r2 q2⟩⟩
theorem snd_bin {op : Operator} (ha : PE X a (sE fs X.K x)) (hb : PE X b (sE fs X.K y)) : PE X (.BinOp a op b p) (sE fs X.K (.bin op x y)) := by
  refine (pe_op (opD op) ha hb).sub fun σ H Q ⟨ρ, S, φ, QD, he, hs, hw, hp⟩ => ?_
  exact two he hs hw fun dx dy S2 vx vy H2 φ2 l t s r1 r2 q => ⟨dx, dy, S2, φ2, QD, r1, r2, s, q, hp.mono l t⟩
theorem snd_not (ha : PE X a (sE fs X.K x)) : PE X (.UnaryOp .Not a p) (sE fs X.K (.not x)) := by
  refine (pe_notT ha).sub fun σ H Q ⟨ρ, S, φ, QD, he, hs, hw, hp⟩ => ?_
  refine ⟨ρ, S, φ, _, he, hs, hw, fun d S1 v H1 φ1 l t s r q => ?_⟩
  obtain ⟨k, hk, q⟩ := truD s r q
  exact ⟨k, hk, (hp.mono l t).here s (.bl _) q⟩
theorem snd_neg (ha : PE X a (sE fs X.K x)) : PE X (.UnaryOp .USub a p) (sE fs X.K (.neg x)) := by
  refine (pe_un un_neg ha).sub fun σ H Q ⟨ρ, S, φ, QD, he, hs, hw, hp⟩ => ?_
  refine ⟨ρ, S, φ, _, he, hs, hw, fun d S1 v H1 φ1 l t s r q => ?_⟩
  split at q
  · cases r
    exact ⟨_, rfl, (hp.mono l t).here s (.int _) q⟩
  · exact q.elim
theorem snd_and {rest : List Expr} (ha : PE X a (sE fs X.K x)) (hb : PE X (.BoolOp .And (b :: rest) p) (sE fs X.K y)) : PE X (.BoolOp .And (a :: b :: rest) p) (sE fs X.K (.and x y)) := by
  refine (pe_andT ha hb).sub fun σ H Q ⟨ρ, S, φ, QD, he, hs, hw, hp⟩ => ?_
  refine ⟨ρ, S, φ, _, he, hs, hw, fun d S1 v H1 φ1 l t s r q => ?_⟩
  obtain ⟨k, hk, q⟩ := truD s r q
  refine ⟨k, hk, ?_⟩
  cases k with
  | true => exact ⟨ρ, S1, φ1, QD, he.mono l t, s, q, hp.mono l t⟩
  | false => exact (hp.mono l t).here s r q
theorem snd_or {rest : List Expr} (ha : PE X a (sE fs X.K x)) (hb : PE X (.BoolOp .Or (b :: rest) p) (sE fs X.K y)) : PE X (.BoolOp .Or (a :: b :: rest) p) (sE fs X.K (.or x y)) := by
  refine (pe_orT ha hb).sub fun σ H Q ⟨ρ, S, φ, QD, he, hs, hw, hp⟩ => ?_
  refine ⟨ρ, S, φ, _, he, hs, hw, fun d S1 v H1 φ1 l t s r q => ?_⟩
  obtain ⟨k, hk, q⟩ := truD s r q
  refine ⟨k, hk, ?_⟩
  cases k with
  | true => exact (hp.mono l t).here s r q
  | false => exact ⟨ρ, S1, φ1, QD, he.mono l t, s, q, hp.mono l t⟩
theorem snd_cmp {op : CmpOp} (ok : CxOk fs X C) (ha : PE X a (sE fs X.K x)) (hb : PE X b (sE fs X.K y)) (hm : behindInMarks op b = false) : PE X (.Compare a [op] [b] p) (sE fs X.K (.cmp op x y)) := by
  refine (pe_cmpR (cpD op ok.un) ha hb hm).sub fun σ H Q ⟨ρ, S, φ, QD, he, hs, hw, hp⟩ => ?_
  exact two he hs hw fun dx dy S2 vx vy H2 φ2 l t s r1 r2 q => ⟨dx, dy, S2, φ2, _, r1, r2, s, q, fun k qk => by
    -- dCmp keeps the store
    exact (hp.mono l t).here s (.bl k) qk⟩

theorem snd_chn {op op' : CmpOp} (ok : CxOk fs X C) (ha : PE X a (sE fs X.K x)) (hb : PE X b (sE fs X.K y)) (hc : PE X c (sE fs X.K z)) (hm : lastMarks [op, op'] [b, c] = false) : PE X (.Compare a [op, op'] [b, c] p) (sE fs X.K (.chn op op' x y z)) := by
  refine (pe_chain (cpD op ok.un) (cpD op' ok.un) ha hb hc hm).sub fun σ H Q ⟨ρ, S, φ, QD, he, hs, hw, hp⟩ => ?_
  refine two he hs hw fun dx dy S2 vx vy H2 φ2 l t s r1 r2 q => ⟨dx, dy, S2, φ2, _, r1, r2, s, q, fun k qk => ⟨k, rfl, ?_⟩⟩
  cases k with
  | true =>
    refine ⟨ρ, S2, φ2, _, he.mono l t, s, qk, fun dz S3 vz H3 φ3 l3 t3 s3 r3 q3 => ?_⟩
    exact ⟨dy, dz, S3, φ3, _, r2.mono l3 t3, r3, s3, q3, fun k' q4 => (hp.mono (l.trans l3) (t.trans t3)).here s3 (.bl k') q4⟩
  | false => exact (hp.mono l t).here s (.bl false) qk
theorem snd_ite {tt : IT} (hc : PT X c (sT fs X.K tt)) (ha : PE X a (sE fs X.K x)) (hb : PE X b (sE fs X.K y)) : PE X (.IfExp c a b p) (sE fs X.K (.ite tt x y)) := by
  refine (pe_ifExp hc ha hb).sub fun σ H Q ⟨ρ, S, φ, QD, he, hs, hw, hp⟩ => ?_
  refine ⟨ρ, S, φ, _, he, hs, hw, fun k S1 H1 φ1 l t s q => ?_⟩
  cases k with
  | true => exact ⟨ρ, S1, φ1, QD, he.mono l t, s, q, hp.mono l t⟩
  | false => exact ⟨ρ, S1, φ1, QD, he.mono l t, s, q, hp.mono l t⟩

/-! ### tests -/
theorem snd_tval (ha : PE X a (sE fs X.K x)) (h : ∀ whole, isTrue a X.env whole = (do let v ← whole; standAt a.pos; holding [v] (truthy v))) : PT X a (sT fs X.K (.val x)) := by
  refine (pt_truth ha h).sub fun σ H Q ⟨ρ, S, φ, QD, he, hs, hw, hp⟩ => ?_
  refine ⟨ρ, S, φ, _, he, hs, hw, fun d S1 v H1 φ1 l t s r q => ?_⟩
  obtain ⟨k, hk, q⟩ := truD s r q
  exact ⟨k, hk, (hp.mono l t).here s q⟩
theorem snd_tcmp {op : CmpOp} (ok : CxOk fs X C) (ha : PE X a (sE fs X.K x)) (hb : PE X b (sE fs X.K y)) (hm : behindInMarks op b = false) : PT X (.Compare a [op] [b] p) (sT fs X.K (.cmp op x y)) := by
  refine (pt_cmpR (cpD op ok.un) ha hb hm).sub fun σ H Q ⟨ρ, S, φ, QD, he, hs, hw, hp⟩ => ?_
  exact two he hs hw fun dx dy S2 vx vy H2 φ2 l t s r1 r2 q => ⟨dx, dy, S2, φ2, _, r1, r2, s, q, fun k qk => ⟨k, rfl, (hp.mono l t).here s qk⟩⟩
theorem snd_tchn {op op' : CmpOp} (ok : CxOk fs X C) (ha : PE X a (sE fs X.K x)) (hb : PE X b (sE fs X.K y)) (hc : PE X c (sE fs X.K z)) (hm : lastMarks [op, op'] [b, c] = false) : PT X (.Compare a [op, op'] [b, c] p) (sT fs X.K (.chn op op' x y z)) := by
  refine (pt_chain (cpD op ok.un) (cpD op' ok.un) ha hb hc hm).sub fun σ H Q ⟨ρ, S, φ, QD, he, hs, hw, hp⟩ => ?_
  refine two he hs hw fun dx dy S2 vx vy H2 φ2 l t s r1 r2 q => ⟨dx, dy, S2, φ2, _, r1, r2, s, q, fun k qk => ⟨k, rfl, ?_⟩⟩
  cases k with
  | true =>
    refine ⟨ρ, S2, φ2, _, he.mono l t, s, qk, fun dz S3 vz H3 φ3 l3 t3 s3 r3 q3 => ?_⟩
    exact ⟨dy, dz, S3, φ3, _, r2.mono l3 t3, r3, s3, q3, fun k' q4 => ⟨k', rfl, (hp.mono (l.trans l3) (t.trans t3)).here s3 q4⟩⟩
  | false => exact ⟨false, rfl, (hp.mono l t).here s qk⟩
theorem snd_tand {rest : List Expr} {t u : IT} (ha : PT X a (sT fs X.K t)) (hb : PW X (.BoolOp .And (b :: rest) p) (sT fs X.K u)) : PW X (.BoolOp .And (a :: b :: rest) p) (sT fs X.K (.and t u)) := by
  refine (pw_and ha hb).sub fun σ H Q ⟨ρ, S, φ, QD, he, hs, hw, hp⟩ => ?_
  refine ⟨ρ, S, φ, _, he, hs, hw, fun k S1 H1 φ1 l t s q => ?_⟩
  cases k with
  | true => exact ⟨ρ, S1, φ1, QD, he.mono l t, s, q, hp.mono l t⟩
  | false => exact (hp.mono l t).here s q
theorem snd_tor {rest : List Expr} {t u : IT} (ha : PT X a (sT fs X.K t)) (hb : PW X (.BoolOp .Or (b :: rest) p) (sT fs X.K u)) : PW X (.BoolOp .Or (a :: b :: rest) p) (sT fs X.K (.or t u)) := by
  refine (pw_or ha hb).sub fun σ H Q ⟨ρ, S, φ, QD, he, hs, hw, hp⟩ => ?_
  refine ⟨ρ, S, φ, _, he, hs, hw, fun k S1 H1 φ1 l t s q => ?_⟩
  cases k with
  | true => exact (hp.mono l t).here s q
  | false => exact ⟨ρ, S1, φ1, QD, he.mono l t, s, q, hp.mono l t⟩
theorem snd_tnot {t : IT} (ha : PT X a (sT fs X.K t)) : PT X (.UnaryOp .Not a p) (sT fs X.K (.not t)) := by
  refine (pt_not ha).sub fun σ H Q ⟨ρ, S, φ, QD, he, hs, hw, hp⟩ => ?_
  exact ⟨ρ, S, φ, _, he, hs, hw, fun k S1 H1 φ1 l t s q => hp _ _ _ φ1 l t s q⟩
theorem snd_tsnil : PTs X [] (sTs fs X.K .none) :=
  ⟨fun pins s σ H Q I ⟨ρ, S, φ, QD, he, hs, hw, hp⟩ => pts_nil.run pins s σ H Q I (hp.here hs hw)⟩
theorem snd_tsone {t : IT} (h : PT X a (sT fs X.K t)) : PTs X [a] (sTs fs X.K (.one t)) :=
  ⟨fun pins s σ H Q I ⟨ρ, S, φ, QD, he, hs, hw, hp⟩ => (pts_one h).run pins s σ H Q I ⟨ρ, S, φ, QD, he, hs, hw, hp⟩⟩

/-! ### calls -/
theorem gl_of {n : Str} (ok : CxOk fs X C) (hk : C.kind n = some .globalImplicit) : Gl X n := by
  show X.env.scope.names.lookup n = _
  rw [ok.sc]; exact hk
theorem snd_fn {n : Str} {i : Nat} {e : Expr} {r : List Expr} {as : IA} {pn : Pos} (ok : CxOk fs X C) (hk : C.kind n = some .globalImplicit) (hn : okName n = true) (hi : idxOf C.fn n = some i) (ha : PA X (e :: r) (sA fs X.K as))
    (he : starEach (e :: r) X.env = (false, eval e X.env) :: starEach r X.env) (hpl : (backTo p (starEach r X.env)).any (·.1) = false) : PE X (.Call (.Name n pn) (e :: r) [] p) (sE fs X.K (.fn i as)) := by
  obtain ⟨sp, hsp, ⟨f, fd, ps, k, F, hr, hm, hkp, hb⟩⟩ := ok.fns i n (idxOf_get hi)
  have hx : Passes CX0 X E0 := pass0
  obtain ⟨_, hd⟩ := ok_name hn
  refine (pe_call F hr (gl_of ok hk) hm hkp hb .nil hx ha hd he hpl).sub fun σ H Q ⟨ρ, S, φ, QD, hee, hs, hw, hp⟩ => ?_
  simp only [wE, hsp] at hw
  refine ⟨ρ, S, φ, _, hee, hs, hw, fun ds S1 vs H1 φ1 l t s r q => ?_⟩
  show spD X.K sp (vs ++ []) H1 Q E0
  rw [List.append_nil]
  exact ⟨ds, S1, φ1, QD, r, s, q, hp.mono l t⟩
theorem snd_fn0 {n : Str} {i : Nat} {pn : Pos} (ok : CxOk fs X C) (hk : C.kind n = some .globalImplicit) (hn : okName n = true) (hi : idxOf C.fn n = some i) : PE X (.Call (.Name n pn) [] [] p) (sE fs X.K (.fn i .nil)) := by
  obtain ⟨sp, hsp, ⟨f, fd, ps, k, F, hr, hm, hkp, hb⟩⟩ := ok.fns i n (idxOf_get hi)
  have hx : Passes CX0 X E0 := pass0
  obtain ⟨_, hd⟩ := ok_name hn
  refine (pe_call0 F hr (gl_of ok hk) hm hkp hb .nil hx hd).sub fun σ H Q ⟨ρ, S, φ, QD, hee, hs, hw, hp⟩ => ?_
  simp only [wE, hsp, wA] at hw
  exact ⟨[], S, φ, QD, .nil, hs, hw, hp⟩
theorem bn_boot {n : Str} {k : Nat} {f : Bn} (h : bnOf n k = some f) : bootBuiltins n = some (bnV f) := by
  unfold bnOf at h
  repeat' split at h
  all_goals first
    | (rename_i e; obtain ⟨e, _⟩ := e; subst e; cases h; decide +kernel)
    | cases h
theorem snd_blt {n : Str} {f : Bn} {e : Expr} {r : List Expr} {as : IA} {pn : Pos} {k : Nat} (ok : CxOk fs X C) (hk : C.kind n = some .globalImplicit) (hn : okName n = true) (hb : C.bn.contains n = true) (hf : bnOf n k = some f) (ha : PA X (e :: r) (sA fs X.K as))
    (he : starEach (e :: r) X.env = (false, eval e X.env) :: starEach r X.env) (hpl : (backTo p (starEach r X.env)).any (·.1) = false) : PE X (.Call (.Name n pn) (e :: r) [] p) (sE fs X.K (.blt f as)) := by
  obtain ⟨hd0, hd⟩ := ok_name hn
  have hv := bn_boot hf
  have hm := ok.bns n hb
  have hg : Gl X n := gl_of ok hk
  have base : PE X (.Call (.Name n pn) (e :: r) [] p) (tCB (rBl X.K f) (sA fs X.K as)) := by
    have hc := bltD (X := X) ok.calm f
    cases f <;> first
      | exact pe_callB hc hg hm hv ha hd0 hd he hpl
      | exact pe_callTy hc hg hm hv ha hd0 hd he hpl
  refine base.sub fun σ H Q ⟨ρ, S, φ, QD, hee, hs, hw, hp⟩ => ?_
  exact ⟨ρ, S, φ, _, hee, hs, hw, fun ds S1 vs H1 φ1 l t s r q => ⟨ds, S1, φ1, QD, r, s, q, hp.mono l t⟩⟩
theorem snd_app {n : Str} {pn ap : Pos} (ho : PE X (.Name n pn) (sE fs X.K x)) (ha : PE X a (sE fs X.K y)) (hline : (ap.endLine == p.line) = true) (he : starEach [a] X.env = [(false, eval a X.env)]) :
    PE X (.Call (.Attribute (.Name n pn) "append" ap) [a] [] p) (sE fs X.K (.app x y)) := by
  have h2 : PA X [a] (sA fs X.K (.cons y .nil)) := snd_acons ha snd_anil (by rw [he]; rfl)
  refine (pe_bm (T := "list") PySem.F.plainAttrs_list PySem.F.slot_list_append PySem.F.type_list_append appD ho h2 rfl (by rw [he]; rfl) hline (by rw [he]; rfl) rfl).sub fun σ H Q ⟨ρ, S, φ, QD, hee, hs, hw, hp⟩ => ?_
  refine ⟨ρ, S, φ, _, hee, hs, hw, fun dx S1 vx H1 φ1 l t s r q => ?_⟩
  obtain ⟨hr, q⟩ := q
  refine ⟨?_, ρ, S1, φ1, fun ds S2 => match ds with | [dy] => dApp dx dy S2 QD | _ => False, hee.mono l t, s, q, fun ds S2 vs H2 φ2 l2 t2 s2 r2 q2 => ?_⟩
  · cases r with
    | @ref ad m hm =>
      obtain ⟨u, eu⟩ := s.has hm
      have hl := ref_lt s hm
      have e : S1[m]? = some (S1[m]'hl) := List.getElem?_eq_getElem _
      cases eo : S1[m]'hl with
      | lst ds =>
        rw [eo] at e
        obtain ⟨vs, f1, _⟩ := s.ob _ _ _ hm e
        exact .inl ⟨rfl, vs, SqL.of f1⟩
    | _ => cases hr
  · match ds, r2, q2 with
    | [dy], r2, q2 =>
      obtain ⟨v, rfl, rv⟩ := repL1 r2
      exact ⟨dx, dy, v, S2, φ2, QD, rfl, r.mono l2 t2, rv, s2, q2, hp.mono (l.trans l2) (t.trans t2)⟩
    | [], _, q2 => exact q2.elim
    | _ :: _ :: _, _, q2 => exact q2.elim
theorem snd_idx (ha : PE X a (sE fs X.K x)) (hb : PE X b (sE fs X.K y)) (hp : PlainIx b) : PE X (.Subscript a b p) (sE fs X.K (.idx x y)) := by
  refine (pe_ix ixD ha hb hp).sub fun σ H Q ⟨ρ, S, φ, QD, he, hs, hw, hp⟩ => ?_
  exact two he hs hw fun dx dy S2 vx vy H2 φ2 l t s r1 r2 q => ⟨dx, dy, S2, φ2, QD, r1, r2, s, q, hp.mono l t⟩
/-- a written dict, asked at once -/
def trsOf (fs : List FSp) (K : PySem.W.Frag) : List Str → IA → List (TE × TE)
  | k :: ks, .cons e as => (sE fs K (.cst (.str k)), sE fs K e) :: trsOf fs K ks as
  | _, _ => []
def alen : IA → Nat
  | .nil => 0
  | .cons _ as => alen as + 1
theorem pairs_of {fs : List FSp} {K : PySem.W.Frag} : ∀ (ks : List Str) (as : IA) {ρ : En} {S : Sto} {φ : List Addr} {σ : L2.St} {H : Hp} {QL : KL} {Q : List (V × V) → Hp → Prop}, EnvRel K φ H ρ σ → SRel K φ S H → wA fs as ρ S QL → alen as = ks.length →
    (∀ ds S' vs H' φ', Le φ φ' → TupLe H H' → SRel K φ' S' H' → RepL K φ' H' vs ds → QL ds S' → vs.length = ks.length → Q (List.zipWith (fun k v => (V.str k, v)) ks vs) H') → tPairs (trsOf fs K ks as) σ H Q
  | [], .nil, ρ, S, φ, σ, H, QL, Q, he, hs, hw, _, h => h [] S [] H φ (Le.refl φ) (TupLe.refl H) hs .nil hw rfl
  | [], .cons _ _, _, _, _, _, _, _, _, _, _, _, hl, _ => by simp [alen] at hl
  | _ :: _, .nil, _, _, _, _, _, _, _, _, _, _, hl, _ => by simp [alen] at hl
  | k :: ks, .cons e as, ρ, S, φ, σ, H, QL, Q, he, hs, hw, hl, h => by
    refine ⟨ρ, S, φ, fun d S1 => d = .str k ∧ S1 = S, he, hs, ⟨rfl, rfl⟩, fun d S1 v H1 φ1 l t s r q => ?_⟩
    obtain ⟨rfl, rfl⟩ := q
    cases r
    refine ⟨ρ, S1, φ1, _, he.mono l t, s, hw, fun d S2 v H2 φ2 l2 t2 s2 r2 q2 => ?_⟩
    refine pairs_of ks as (he.mono (l.trans l2) (t.trans t2)) s2 q2 (by simpa [alen] using hl) fun ds S' vs H' φ' l3 t3 s3 r3 q3 hv => ?_
    exact h (d :: ds) S' (v :: vs) H' φ' ((l.trans l2).trans l3) ((t.trans t2).trans t3) s3 (.cons (r2.mono l3 t3) r3) q3 (by simp [hv])
theorem merge_new {κ : Type} [DecidableEq κ] : ∀ (more acc : List (κ × V)), (∀ kv ∈ more, ∀ e ∈ acc, e.1 ≠ kv.1) → (more.map (·.1)).Nodup → more.foldl (fun acc kv => putK acc kv.1 kv.2) acc = acc ++ more
  | [], acc, _, _ => by simp
  | kv :: r, acc, h, hn => by
    have e : putK acc kv.1 kv.2 = acc ++ [kv] := by
      unfold putK
      rw [if_neg]
      simp only [List.any_eq_true, decide_eq_true_eq, not_exists, not_and]
      exact fun x hx => h kv List.mem_cons_self x hx
    rw [List.map_cons, List.nodup_cons] at hn
    rw [List.foldl_cons, e, merge_new r (acc ++ [kv]) (fun x hx y hy => ?_) hn.2]
    · simp
    · rcases List.mem_append.mp hy with hy | hy
      · exact h x (List.mem_cons_of_mem _ hx) y hy
      · rw [List.mem_singleton.mp hy]
        exact fun z => hn.1 (by rw [z]; exact List.mem_map_of_mem (f := fun p : κ × V => p.1) hx)
theorem zip_keys : ∀ (ks : List Str) (vs : List V), vs.length = ks.length → ((List.zipWith (fun k v => ((.inr k : Key), v)) ks vs).map (·.1)) = ks.map Sum.inr
  | [], [], _ => rfl
  | [], _ :: _, h => by simp at h
  | _ :: _, [], h => by simp at h
  | k :: ks, v :: vs, h => by
    simp only [List.zipWith_cons_cons, List.map_cons]
    rw [zip_keys ks vs (by simpa using h)]
theorem zip_look {K : PySem.W.Frag} {φ : List Addr} {H : Hp} {y : Str} {d : D} : ∀ (ks : List Str) {vs : List V} {ds : List D}, RepL K φ H vs ds → dLook ks ds y = some d → ∃ v, valV (List.zipWith (fun k v => ((.inr k : Key), v)) ks vs) (.inr y) = some v ∧ Rep K φ H v d
  | [], _, _, _, h => by simp [dLook] at h
  | k :: ks, _, _, .nil, h => by simp [dLook] at h
  | k :: ks, v :: vs, e :: ds, .cons r rr, h => by
    simp only [dLook] at h
    by_cases hk : k = y
    · rw [if_pos hk] at h
      cases h
      exact ⟨v, by simp [valV, hk], r⟩
    · rw [if_neg hk] at h
      obtain ⟨w, e1, q⟩ := zip_look ks rr h
      refine ⟨w, ?_, q⟩
      rw [← e1]
      have hne : ¬ ((.inr k : Key) = .inr y) := fun z => hk (Sum.inr.inj z)
      simp [valV, hne]
theorem snd_dsub {keys : List (Option Expr)} {values : List Expr} {i : Expr} {dp : Pos} {ks : List Str} {as : IA} (hu : X.A.units + 1 < cLine) (hP : PPs X dp keys values (trsOf fs X.K ks as)) (hal : alen as = ks.length) (hall : keys.all (·.isSome) = true) (hl : keys.length = values.length) (h0 : 0 < keys.length) (h15 : keys.length ≤ 15) (hkl : ks.length = keys.length) (hn : ks.Nodup)
    (hi : PE X i (sE fs X.K x)) (hns : NoSl i) : PE X (.Subscript (.Dict keys values dp) i p) (sE fs X.K (.dsub ks as x)) := by
  refine (pe_dget hu (pe_disp hP hall hl (fun z => by rw [z] at h0; simp at h0) h15) hi hns).sub fun σ H Q ⟨ρ, S, φ, QD, he, hs, hw, hp⟩ => ?_
  intro a ha
  have t0 : TupLe H (upd H a (.dK [])) := TupLe.new ha
  refine pairs_of ks as (he.mono (Le.refl φ) t0) (hs.new ha) hw hal fun ds S2 vs H2 φ2 l2 t2 s2 r2 q2 hv => ?_
  have e2 : H2 a = some (.dK []) := t2.k a [] upd_same
  refine ⟨e2, List.zipWith (fun k v => ((.inr k : Key), v)) ks vs, ?_, ?_, ?_⟩
  · rw [List.map_zipWith]; rfl
  · rw [List.length_zipWith]; omega
  · have mk : mergeK [] (List.zipWith (fun k v => ((.inr k : Key), v)) ks vs) = List.zipWith (fun k v => ((.inr k : Key), v)) ks vs := by
      unfold mergeK
      rw [merge_new _ [] (fun _ _ _ z => by cases z) (by rw [zip_keys ks vs hv]; exact List.pairwise_map.mpr (hn.imp fun z w => z (Sum.inr.inj w)))]
      rfl
    rw [mk]
    have z0 : TupLe0 H2 (upd H2 a (.dK (List.zipWith (fun k v => ((.inr k : Key), v)) ks vs))) := TupLe0.fill e2
    have tA : TupLe H (upd H2 a (.dK (List.zipWith (fun k v => ((.inr k : Key), v)) ks vs))) := TupLe.fill ha t2
    refine ⟨ρ, S2, φ2, _, he.mono l2 tA, s2.fill e2, q2, fun d S3 v H3 φ3 l3 t3 s3 r3 q3 => ?_⟩
    split at q3
    · obtain ⟨u, hk, q⟩ := q3
      cases r3
      have rv := (r2.mono0 (Le.refl φ2) z0).mono l3 t3
      obtain ⟨w, f1, f2⟩ := zip_look ks rv hk
      exact ⟨a, w, rfl, .inl ⟨_, .inr _, .inl (t3.k _ _ upd_same), rfl, f1.symm⟩, hp _ _ _ _ φ3 (l2.trans l3) (tA.trans t3) s3 f2 q⟩
    · exact q3.elim
theorem snd_ono : PO X none (sO fs X.K .no) :=
  po_none.sub fun σ H Q ⟨ρ, S, φ, QD, he, hs, hw, hp⟩ => hp _ _ _ φ (Le.refl φ) (TupLe.refl H) hs hw
theorem snd_oyes (ha : PE X a (sE fs X.K x)) : PO X (some a) (sO fs X.K (.yes x)) := by
  refine (po_some ha).sub fun σ H Q ⟨ρ, S, φ, QD, he, hs, hw, hp⟩ => ?_
  refine ⟨ρ, S, φ, _, he, hs, hw, fun d S1 v H1 φ1 l t s r q => ?_⟩
  split at q
  · cases r
    exact ⟨_, rfl, hp _ _ _ φ1 l t s q⟩
  · exact q.elim
theorem snd_slc {lo hi : Option Expr} {ol oh : IO} {p2 : Pos} (ha : PE X a (sE fs X.K x)) (hl : PO X lo (sO fs X.K ol)) (hh : PO X hi (sO fs X.K oh)) : PE X (.Subscript a (.Slice lo hi none p2) p) (sE fs X.K (.slc x ol oh)) := by
  refine (pe_slice slD ha hl hh).sub fun σ H Q ⟨ρ, S, φ, QD, he, hs, hw, hp⟩ => ?_
  refine ⟨ρ, S, φ, _, he, hs, hw, fun d S1 v H1 φ1 l t s r q => ?_⟩
  refine ⟨ρ, S1, φ1, _, he.mono l t, s, q, fun o1 S2 H2 φ2 l2 t2 s2 q2 => ?_⟩
  refine ⟨ρ, S2, φ2, _, (he.mono l t).mono l2 t2, s2, q2, fun o2 S3 H3 φ3 l3 t3 s3 q3 => ?_⟩
  exact ⟨d, S3, φ3, QD, (r.mono l2 t2).mono l3 t3, s3, q3, hp.mono ((l.trans l2).trans l3) ((t.trans t2).trans t3)⟩

/-! ### targets -/
theorem snd_gname {n : Str} {i : Nat} (ok : CxOk fs X C) (hi : idxOf C.N n = some i) (ho : C.okSt n = true) : PG X (.Name n p) (sG fs X.K (.name i)) := by
  have hst : (X.env.scope.names.lookup n = some .local) ∨ (X.env.scope.names.lookup n = some .cell ∧ X.fn n = true) := by
    rw [ok.sc]
    unfold Ctx.okSt Ctx.kind at ho
    split at ho
    · rename_i e; exact .inl e
    · rename_i e; exact .inr ⟨e, ok.fnc n ho⟩
    · cases ho
  have hl : Loc X.env.scope n := hst.elim .inl fun z => .inr z.1
  refine (pg_name ok.nd (by rw [ok.hN]; exact idxOf_get hi) hl (hst.elim .inr fun z => .inl z.2)).sub fun v σ H Q ⟨d, ρ, S, φ, QD, r, he, hs, hw, hp⟩ => ?_
  exact hp _ _ _ _ φ (Le.refl φ) (TupLe.refl H) (he.set i r) hs (Only.set σ i _) hw
theorem snd_gnil : PGs X [] (sGs fs X.K .nil) := by
  refine pgs_nil.sub fun v σ H Q ⟨ds, ρ, S, φ, QD, r, he, hs, hw, hp⟩ => ?_
  obtain ⟨rfl, hw⟩ := hw
  cases r
  exact ⟨rfl, hp _ _ _ _ φ (Le.refl φ) (TupLe.refl H) he hs (Only.refl σ _) hw⟩
theorem snd_gcons {es : List Expr} {g : IG} {gs : IGs} (h1 : PG X e (sG fs X.K g)) (h2 : PGs X es (sGs fs X.K gs)) (h : (assignEach (e :: es) X.env).map (·.2) = assign e X.env :: (assignEach es X.env).map (·.2)) : PGs X (e :: es) (sGs fs X.K (.cons g gs)) := by
  refine (pgs_cons h1 h2 h).sub fun v σ H Q ⟨ds, ρ, S, φ, QD, r, he, hs, hw, hp⟩ => ?_
  cases r with
  | nil => exact False.elim hw
  | @cons v vs d ds r1 r2 =>
    refine ⟨v, vs, rfl, d, ρ, S, φ, _, r1, he, hs, hw, fun ρ1 S1 σ1 H1 φ1 l t he1 s1 o1 q1 => ?_⟩
    refine ⟨ds, ρ1, S1, φ1, QD, r2.mono l t, he1, s1, q1, fun ρ2 S2 σ2 H2 φ2 l2 t2 he2 s2 o2 q2 => ?_⟩
    exact hp _ _ _ _ φ2 (l.trans l2) (t.trans t2) he2 s2 (o1.trans o2) q2
theorem snd_gtup {es : List Expr} {k : Nat} {gs : IGs} (ok : CxOk fs X C) (h : PGs X es (sGs fs X.K gs)) (hlen : gsLen gs = es.length) (hn : (assignEach es X.env).length = es.length) (hst : (assignEach es X.env).findIdx? (·.1) = none) : PG X (.Tuple es k p) (sG fs X.K (.tup gs)) := by
  refine (pg_tup ok.calm h hn hst).sub fun v σ H Q ⟨d, ρ, S, φ, QD, r, he, hs, hw, hp⟩ => ?_
  cases r with
  | @tup ad vs ds h1 r1 =>
    obtain ⟨hl, hw⟩ : ds.length = gsLen gs ∧ wGs fs gs ds ρ S QD := hw
    exact ⟨ad, vs, rfl, h1, by rw [r1.length, hl, hlen], ds, ρ, S, φ, QD, r1, he, hs, hw, hp⟩
  | _ => exact False.elim hw
theorem snd_gsub (ho : PE X a (sE fs X.K x)) (hi : PE X b (sE fs X.K y)) (ha : ∀ v, assign (.Subscript a b p) X.env v = (do
      let ov ← holding [v] (eval a X.env)
      let iv ← holding [v, ov] (eval b X.env)
      standAt p
      holding [v, ov, iv] (setItem ov iv v)
      release [v, ov, iv] [])) : PG X (.Subscript a b p) (sG fs X.K (.sub x y)) := by
  refine (pg_sub ho hi setD ha).sub fun v σ H Q ⟨d, ρ, S, φ, QD, r, he, hs, hw, hp⟩ => ?_
  exact two he hs hw fun dx dy S2 vx vy H2 φ2 l t s r1 r2 q => ⟨dx, dy, d, S2, φ2, _, r1, r2, r.mono l t, s, q, fun S' H' t' s' q' => hp _ _ _ _ φ2 l (t.trans t') ((he.mono l t).mono (Le.refl φ2) t') s' (Only.refl σ _) q'⟩

/-! ### what is walked -/
theorem walks_tup {K : PySem.W.Frag} {φ : List Addr} {H : Hp} {ad : Addr} {vs : List V} {ds : List D} (h : SqT K H ad vs) (r : RepL K φ H vs ds) : Walks K φ H (Itt K ad) ds fun _ => True := by
  intro i S φ' H' l t s _
  refine ⟨fun d hd => ?_, fun hl => ⟨vs, t.sqT h, by rw [r.length]; exact hl⟩⟩
  obtain ⟨v, e, rv⟩ := r.get hd
  refine ⟨⟨vs, v, t.sqT h, e⟩, fun x H2 hy => ?_⟩
  obtain ⟨rfl, hy⟩ := hy
  have e2 := hy vs (t.sqT h)
  rw [e] at e2; cases e2
  exact ⟨TupLe.refl _, s, rv.mono l t⟩
theorem walks_rol {K : PySem.W.Frag} {φ : List Addr} {H : Hp} {ad : Addr} {vs : List V} {ds : List D} (h : SqR K H ad vs) (r : RepL K φ H vs ds) : Walks K φ H (Itl K ad) ds fun _ => True := by
  intro i S φ' H' l t s _
  refine ⟨fun d hd => ?_, fun hl => ⟨vs, (t.sqR h).l, by rw [r.length]; exact hl⟩⟩
  obtain ⟨v, e, rv⟩ := r.get hd
  refine ⟨⟨vs, v, (t.sqR h).l, e⟩, fun x H2 hy => ?_⟩
  obtain ⟨rfl, hy⟩ := hy
  have e2 := hy vs (t.sqR h).l
  rw [e] at e2; cases e2
  exact ⟨TupLe.refl _, s, rv.mono l t⟩
theorem walks_ref {K : PySem.W.Frag} {φ : List Addr} {H : Hp} {ad : Addr} {n : Nat} {ds : List D} (h : φ[n]? = some ad) : Walks K φ H (Itl K ad) ds fun S => S[n]? = some (.lst ds) := by
  intro i S φ' H' l t s c
  obtain ⟨vs, f1, r⟩ := s.ob _ _ _ (l _ _ h) c
  refine ⟨fun d hd => ?_, fun hl => ⟨vs, SqL.of f1, by rw [r.length]; exact hl⟩⟩
  obtain ⟨v, e, rv⟩ := r.get hd
  refine ⟨⟨vs, v, SqL.of f1, e⟩, fun x H2 hy => ?_⟩
  obtain ⟨rfl, hy⟩ := hy
  have e2 := hy vs (SqL.of f1)
  rw [e] at e2; cases e2
  exact ⟨TupLe.refl _, s, rv⟩
theorem ints_get {lo : Int} {n i : Nat} {d : D} (h : (intsFrom lo n)[i]? = some d) : i < n ∧ d = .int (lo + i) := by
  unfold intsFrom at h
  rw [List.getElem?_map] at h
  cases e : (List.range n)[i]? with
  | none => rw [e] at h; cases h
  | some j =>
    rw [e] at h
    obtain ⟨hl, ej⟩ := List.getElem?_eq_some_iff.mp e
    simp at hl ej
    subst ej
    cases h
    exact ⟨hl, rfl⟩
theorem walks_rng {K : PySem.W.Frag} {φ : List Addr} {H : Hp} {lo : Int} {n : Nat} : Walks K φ H (Itr lo n) (intsFrom lo n) fun _ => True := by
  intro i S φ' H' l t s _
  refine ⟨fun d hd => ?_, fun hl => ?_⟩
  · obtain ⟨h1, rfl⟩ := ints_get hd
    refine ⟨h1, fun x H2 hy => ?_⟩
    obtain ⟨rfl, rfl⟩ := hy
    exact ⟨TupLe.refl _, s, .int _⟩
  · have e : (intsFrom lo n).length = n := by unfold intsFrom; simp
    rw [e] at hl
    exact hl
/-- a list that is walked -/
def Lists (K : PySem.W.Frag) (φ₁ : List Addr) (H₁ : Hp) (a : Addr) (ds : List D) (chk : Sto → Prop) : Prop :=
  ∀ (S : Sto) (φ : List Addr) (H : Hp), Le φ₁ φ → TupLe H₁ H → SRel K φ S H → chk S → ∃ vs, SqL K H a vs ∧ RepL K φ H vs ds
theorem lists1 {K : PySem.W.Frag} {φ : List Addr} {S : Sto} {H : Hp} {v : V} {d : D} {k : List D → (Sto → Prop) → Prop} (s : SRel K φ S H) (r : Rep K φ H v d) (h : dLIter d S k) : ∃ a ds chk, v = .ref a ∧ (∃ vs, SqL K H a vs) ∧ Lists K φ H a ds chk ∧ k ds chk := by
  cases r with
  | @rol a vs ds h1 r1 => exact ⟨a, ds, _, rfl, ⟨vs, h1.l⟩, fun S' φ' H' l t _ _ => ⟨vs, (t.sqR h1).l, r1.mono l t⟩, h⟩
  | @ref a n hn =>
    simp only [dLIter] at h
    split at h
    · rename_i ds e
      obtain ⟨vs, f1, r1⟩ := s.ob _ _ _ hn e
      refine ⟨a, ds, _, rfl, ⟨vs, SqL.of f1⟩, fun S' φ' H' l t s' c => ?_, h⟩
      obtain ⟨ws, f2, r2⟩ := s'.ob _ _ _ (l _ _ hn) c
      exact ⟨ws, SqL.of f2, r2⟩
    · exact h.elim
  | _ => exact False.elim h
theorem walks_enum {K : PySem.W.Frag} {φ : List Addr} {H : Hp} {a : Addr} {ds : List D} {chk : Sto → Prop} (h : Lists K φ H a ds chk) : Walks K φ H (Ite K a) (enumD ds) chk := by
  intro i S φ' H' l t s c
  obtain ⟨vs, hq, r⟩ := h S φ' H' l t s c
  refine ⟨fun d hd => ?_, fun hl => ⟨vs, hq, by rw [r.length]; simpa [enumD] using hl⟩⟩
  unfold enumD at hd
  rw [List.getElem?_mapIdx, Option.map_eq_some_iff] at hd
  obtain ⟨d0, e0, rfl⟩ := hd
  obtain ⟨v, e, rv⟩ := r.get e0
  refine ⟨⟨vs, v, hq, e⟩, fun x H2 hy => ?_⟩
  obtain ⟨T, x', rfl, hT, rfl, hx⟩ := hy
  have := hx vs hq
  rw [e] at this
  cases this
  exact ⟨TupLe.new hT, s.new hT, .tup (SqT.of upd_same) (.cons (.int _) (.cons (rv.mono (Le.refl _) (TupLe.new hT)) .nil))⟩
theorem zip_get {xs ys : List D} {i : Nat} {d : D} (h : (zipD xs ys)[i]? = some d) : ∃ x y, xs[i]? = some x ∧ ys[i]? = some y ∧ d = .tup [x, y] := by
  unfold zipD at h
  rw [List.getElem?_zipWith] at h
  split at h
  · rename_i x y e1 e2
    exact ⟨x, y, e1, e2, by cases h; rfl⟩
  · cases h
theorem walks_zip {K : PySem.W.Frag} {φ : List Addr} {H : Hp} {a b : Addr} {xs ys : List D} {c1 c2 : Sto → Prop} (h1 : Lists K φ H a xs c1) (h2 : Lists K φ H b ys c2) : Walks K φ H (Itz K a b) (zipD xs ys) fun S => c1 S ∧ c2 S := by
  intro i S φ' H' l t s c
  obtain ⟨vs, hq, r⟩ := h1 S φ' H' l t s c.1
  obtain ⟨ws, hq2, r2⟩ := h2 S φ' H' l t s c.2
  refine ⟨fun d hd => ?_, fun hl => ⟨vs, ws, hq, hq2, by rw [r.length, r2.length]; simp only [zipD, List.length_zipWith] at hl; omega⟩⟩
  obtain ⟨x, y, e1, e2, rfl⟩ := zip_get hd
  obtain ⟨v, f1, rv⟩ := r.get e1
  obtain ⟨w, f2, rw2⟩ := r2.get e2
  refine ⟨⟨vs, ws, v, w, hq, hq2, f1, f2⟩, fun u H2 hy => ?_⟩
  obtain ⟨T, x', y', rfl, hT, rfl, hx, hy⟩ := hy
  have q1 := hx vs hq
  have q2 := hy ws hq2
  rw [f1] at q1
  rw [f2] at q2
  cases q1
  cases q2
  exact ⟨TupLe.new hT, s.new hT, .tup (SqT.of upd_same) (.cons (rv.mono (Le.refl _) (TupLe.new hT)) (.cons (rw2.mono (Le.refl _) (TupLe.new hT)) .nil))⟩
theorem walks_zipT {K : PySem.W.Frag} {φ : List Addr} {H : Hp} {a b : Addr} {vs ws : List V} {xs ys : List D} (h1 : SqT K H a vs) (r : RepL K φ H vs xs) (h2 : SqT K H b ws) (r2 : RepL K φ H ws ys) : Walks K φ H (RZ.ItzT K a b) (zipD xs ys) fun _ => True := by
  intro i S φ' H' l t s _
  have hq := t.sqT h1
  have hq2 := t.sqT h2
  refine ⟨fun d hd => ?_, fun hl => ⟨vs, ws, hq, hq2, by rw [r.length, r2.length]; simp only [zipD, List.length_zipWith] at hl; omega⟩⟩
  obtain ⟨x, y, e1, e2, rfl⟩ := zip_get hd
  obtain ⟨v, f1, rv⟩ := r.get e1
  obtain ⟨w, f2, rw2⟩ := r2.get e2
  refine ⟨⟨vs, ws, v, w, hq, hq2, f1, f2⟩, fun u H2 hy => ?_⟩
  obtain ⟨T, x', y', rfl, hT, rfl, hx, hy⟩ := hy
  have q1 := hx vs hq
  have q2 := hy ws hq2
  rw [f1] at q1
  rw [f2] at q2
  cases q1
  cases q2
  exact ⟨TupLe.new hT, s.new hT, .tup (SqT.of upd_same) (.cons ((rv.mono l t).mono (Le.refl _) (TupLe.new hT)) (.cons ((rw2.mono l t).mono (Le.refl _) (TupLe.new hT)) .nil))⟩
theorem snd_ival {tg : Expr} (ha : PE X a (sE fs X.K x)) : PI X tg a (sI fs X.K (.val x)) := by
  refine ⟨fun pins s σ H R I ⟨ρ, S, φ, QD, he, hs, hw, hp⟩ => ?_⟩
  -- a tuple or a list: by the value that comes
  have hR : sE fs X.K x σ H fun v H1 => (∃ a, v = .ref a ∧ (∃ xs, SqL X.K H1 a xs) ∧ R (Itl X.K a) H1) ∨ (∃ a, v = .ref a ∧ (∃ xs, SqT X.K H1 a xs) ∧ R (Itt X.K a) H1) := by
    refine ⟨ρ, S, φ, _, he, hs, hw, fun d S1 v H1 φ1 l t s r q => ?_⟩
    unfold dIter at q
    split at q
    · cases r with
      | @tup ad vs ds h1 r1 => exact .inr ⟨ad, rfl, ⟨vs, h1⟩, hp _ _ _ _ _ φ1 l t s (walks_tup h1 r1) q⟩
    · cases r with
      | @rol ad vs ds h1 r1 => exact .inl ⟨ad, rfl, ⟨vs, h1.l⟩, hp _ _ _ _ _ φ1 l t s (walks_rol h1 r1) q⟩
    · cases r with
      | @ref ad n hn =>
        split at q
        · rename_i ds e
          obtain ⟨vs, f1, r1⟩ := s.ob _ _ _ hn e
          exact .inl ⟨ad, rfl, ⟨vs, SqL.of f1⟩, hp _ _ _ _ _ φ1 l t s (walks_ref hn) q⟩
        · exact q.elim
    · exact q.elim
  refine thn (ha.run pins s σ H _ I hR) fun v s1 ⟨w, H1, I1, r1, q1⟩ => ?_
  rcases q1 with ⟨ad, rfl, ⟨xs, hq⟩, q⟩ | ⟨ad, rfl, ⟨xs, hq⟩, q⟩
  · cases r1
    obtain ⟨its, rv, p, hz⟩ := I1.list hq
    refine wpAny_pyIter_list p.isList ?_
    refine ⟨s1.heap.objs.size, [s1.heap.objs.size], _, _, H1, rfl, I1.kept (t' := s1.toks) fun b o e => Heap.get?_push_of_some _ e, turn_list ad _, ⟨_, Heap.get?_push_size _ rfl, rfl, rfl⟩, fun b hb => ?_, q⟩
    have e : b = s1.heap.objs.size := by simpa using hb
    subst e
    exact I1.fpOk (Nat.le_refl _) (I1.hok.fresh (Nat.le_refl _))
  · cases r1
    obtain ⟨its, rv, p, hz⟩ := I1.tuple hq
    refine wpAny_pyIter_tuple (show s1.heap.IsTuple ad its.toArray from p) ?_
    refine ⟨s1.heap.objs.size, [s1.heap.objs.size], _, _, H1, rfl, I1.kept (t' := s1.toks) fun b o e => Heap.get?_push_of_some _ e, turn_tuple ad _, ⟨_, Heap.get?_push_size _ rfl, rfl, rfl⟩, fun b hb => ?_, q⟩
    have e : b = s1.heap.objs.size := by simpa using hb
    subst e
    exact I1.fpOk (Nat.le_refl _) (I1.hok.fresh (Nat.le_refl _))
theorem snd_irng1 {tg : Expr} {pn : Pos} (ok : CxOk fs X C) (hk : C.kind "range" = some .globalImplicit) (hb : C.bn.contains "range" = true) (ha : PE X a (sE fs X.K x)) (he : starEach [a] X.env = [(false, eval a X.env)]) :
    PI X tg (.Call (.Name "range" pn) [a] [] p) (sI fs X.K (.rng1 x)) := by
  refine (pi_range1 (gl_of ok hk) (ok.bns _ hb) (pa_cons ha pa_nil (by rw [he]; rfl)) he).sub fun σ H R ⟨ρ, S, φ, QD, hee, hs, hw, hp⟩ => ?_
  refine ⟨ρ, S, φ, _, hee, hs, hw, fun d S1 v H1 φ1 l t s r q => ?_⟩
  split at q
  · cases r
    exact ⟨_, rfl, q.1.1, q.1.2, hp _ _ _ _ _ φ1 l t s walks_rng q.2⟩
  · exact q.elim
theorem snd_irng2 {tg : Expr} {pn : Pos} (ok : CxOk fs X C) (hk : C.kind "range" = some .globalImplicit) (hb : C.bn.contains "range" = true) (ha : PE X a (sE fs X.K x)) (hbb : PE X b (sE fs X.K y)) (he : starEach [a, b] X.env = [(false, eval a X.env), (false, eval b X.env)]) (he2 : starEach [b] X.env = [(false, eval b X.env)]) :
    PI X tg (.Call (.Name "range" pn) [a, b] [] p) (sI fs X.K (.rng2 x y)) := by
  refine (pi_range2 (gl_of ok hk) (ok.bns _ hb) (pa_cons ha (pa_cons hbb pa_nil (by rw [he2]; rfl)) (by rw [he, he2])) he he2).sub fun σ H R ⟨ρ, S, φ, QD, hee, hs, hw, hp⟩ => ?_
  refine two hee hs hw fun dx dy S2 vx vy H2 φ2 l t s r1 r2 q => ?_
  split at q
  · cases r1; cases r2
    exact ⟨_, _, rfl, q.1, hp _ _ _ _ _ φ2 l t s walks_rng q.2⟩
  · exact q.elim
theorem snd_ienum {elts : List Expr} {kk : Nat} {tpos : Pos} {pn : Pos} (ok : CxOk fs X C) (hk : C.kind "enumerate" = some .globalImplicit) (hb : C.bn.contains "enumerate" = true) (ha : PE X a (sE fs X.K x)) (he : starEach [a] X.env = [(false, eval a X.env)]) :
    PI X (.Tuple elts kk tpos) (.Call (.Name "enumerate" pn) [a] [] p) (sI fs X.K (.enum x)) := by
  refine (pi_enum (gl_of ok hk) (ok.bns _ hb) (pa_cons ha pa_nil (by rw [he]; rfl)) he).sub fun σ H R ⟨ρ, S, φ, QD, hee, hs, hw, hp⟩ => ?_
  refine ⟨ρ, S, φ, _, hee, hs, hw, fun d S1 v H1 φ1 l t s r q => ?_⟩
  obtain ⟨ad, ds, chk, rfl, ⟨vs, hq⟩, hl, k⟩ := lists1 s r q
  exact ⟨ad, vs, rfl, hq, hp _ _ _ _ _ φ1 l t s (walks_enum hl) k⟩
theorem snd_izip {elts : List Expr} {kk : Nat} {tpos : Pos} {pn : Pos} (ok : CxOk fs X C) (hk : C.kind "zip" = some .globalImplicit) (hb : C.bn.contains "zip" = true) (ha : PE X a (sE fs X.K x)) (hbb : PE X b (sE fs X.K y)) (he : starEach [a, b] X.env = [(false, eval a X.env), (false, eval b X.env)]) (he2 : starEach [b] X.env = [(false, eval b X.env)]) :
    PI X (.Tuple elts kk tpos) (.Call (.Name "zip" pn) [a, b] [] p) (sI fs X.K (.zip x y)) := by
  refine (RZ.pi_zipA (gl_of ok hk) (ok.bns _ hb) (pa_cons ha (pa_cons hbb pa_nil (by rw [he2]; rfl)) (by rw [he, he2])) (by rw [he, he2]) (by rw [he2]; rfl)).sub fun σ H R ⟨ρ, S, φ, QD, hee, hs, hw, hp⟩ => ?_
  refine two hee hs hw fun dx dy S2 vx vy H2 φ2 l t s r1 r2 q => ?_
  have lsts : (dLIter dx S2 fun xs c => dLIter dy S2 fun ys c' => QD (zipD xs ys) (fun S' => c S' ∧ c' S') S2) → ∃ a b xs ys, [vx, vy] = [V.ref a, V.ref b] ∧ ((SqL X.K H2 a xs ∧ SqL X.K H2 b ys ∧ R (Itz X.K a b) H2) ∨ (SqT X.K H2 a xs ∧ SqT X.K H2 b ys ∧ R (RZ.ItzT X.K a b) H2)) := fun q => by
    obtain ⟨ad, xs, c1, rfl, ⟨vs, hq⟩, hl, k⟩ := lists1 s r1 q
    obtain ⟨bd, ys, c2, rfl, ⟨ws, hq2⟩, hl2, k⟩ := lists1 s r2 k
    exact ⟨ad, bd, vs, ws, rfl, .inl ⟨hq, hq2, hp _ _ _ _ _ φ2 l t s (walks_zip hl hl2) k⟩⟩
  unfold dZip at q
  split at q
  · cases r1 with
    | @tup ad vs ds h1 q1 =>
      cases r2 with
      | @tup bd ws es h2 q2 => exact ⟨ad, bd, vs, ws, rfl, .inr ⟨h1, h2, hp _ _ _ _ _ φ2 l t s (walks_zipT h1 q1 h2 q2) q⟩⟩
  · exact lsts q
end
end DW

set_option Elab.async false
set_option linter.all false
set_option maxRecDepth 100000
set_option maxHeartbeats 2000000
namespace DW
open PySem PySem.Spec PyProof.Rows L2

section
variable {fs : List FSp} {X : Cx} {C : Ctx} {e a b c : Expr} {x y z : IE} {p : Pos}

theorem blk_ok (ok : CxOk fs X C) {s : Shared} {H : Hp} {scope : Scope} {A : Addr} {cl : List (Str × Addr)} {fp : List Addr} : CxOk fs (X.blk s H scope (compEnvC scope cl A X.env) fp) { C with sc := relS scope C.sc, blk := some scope } where
  hN := ok.hN
  nd := ok.nd
  sc := by
    show relS scope X.env.scope = relS scope C.sc
    rw [ok.sc]
  calm := ok.calm
  fnc := fun x h => h
  un := ok.un
  con := ok.con
  fns := fun i n h => by
    obtain ⟨sp, h1, h2⟩ := ok.fns i n h
    exact ⟨sp, h1, ⟨h2.ex⟩⟩
  bns := ok.bns
  xe := rfl

theorem snd_lcp {elt tg iter : Expr} {ifs : List Expr} {scope : Scope} {own : List (Str × Nat)} {g : IG} {it : II} {t : ITs} (ok : CxOk fs X C) (hb : blkC C.N C.sc scope own = true) (hsl : ∀ i ∈ gSlots g, i ∈ own.map (·.2))
    (hi : PI X tg iter (sI fs X.K it))
    (hg : ∀ (s : Shared) (H : Hp) (A : Addr) (cl : List (Str × Addr)) (fp : List Addr), PG (X.blk s H scope (compEnvC scope cl A X.env) fp) tg (sG fs X.K g))
    (ht : ∀ (s : Shared) (H : Hp) (A : Addr) (cl : List (Str × Addr)) (fp : List Addr), PTs (X.blk s H scope (compEnvC scope cl A X.env) fp) ifs (sTs fs X.K t))
    (he : ∀ (s : Shared) (H : Hp) (A : Addr) (cl : List (Str × Addr)) (fp : List Addr), PE (X.blk s H scope (compEnvC scope cl A X.env) fp) elt (sE fs X.K x)) (hs : ∀ v, foldedSetIterable iter X.env v = pure v) :
    BlkOk X.N X.env.scope scope own ∧ ∀ σ H Q, sE fs X.K (.lcp (own.map (·.2)) g it t x) σ H Q → tLc (sI fs X.K it) (sG fs X.K g) (sTs fs X.K t) (sE fs X.K x) (own.map (·.2)) σ H Q := by
  refine ⟨by rw [ok.hN, ok.sc]; exact blkOk_by hb, fun σ H Q ⟨ρ, S, φ, QD, hee, hss, hw, hp⟩ => ?_⟩
  refine ⟨ρ, S, φ, _, hee, hss, hw, fun ds chk S1 J H1 φ1 l1 t1 s1 wk q1 => ?_⟩
  intro Da hDa
  have hix : (φ1 ++ [Da])[S1.length]? = some Da := s1.idx
  let Wp : Nat → Hp → Prop := fun i H => ∃ (S : Sto) (φ : List Addr), Le (φ1 ++ [Da]) φ ∧ TupLe H1 H ∧ SRel X.K φ S H ∧
    cLoop S1.length chk (fun d S2 ky kn => wG fs g d (wipeD ρ (own.map (·.2))) S2 fun ρ2 S3 => wTs fs t ρ2 S3 fun k S4 => if k = true then wE fs x ρ2 S4 ky else kn S4) (QD (.ref S1.length)) (ds.drop i) S
  refine ⟨fun i m H => m = ds.length - i ∧ i ≤ ds.length ∧ Wp i H, ⟨ds.length, by simp, Nat.zero_le _, ?_⟩, ?_⟩
  · refine ⟨S1 ++ [.lst []], φ1 ++ [Da], Le.refl _, TupLe.new hDa, s1.alloc hDa .nil, ?_⟩
    rw [List.drop_zero]
    exact q1
  · rintro i m H2 ⟨rfl, hile, S2, φ2, l2, t2, s2, q2⟩
    have l12 : Le φ1 φ2 := (Le.app φ1 [Da]).trans l2
    by_cases hlt : i < ds.length
    · rw [List.drop_eq_getElem_cons hlt] at q2
      obtain ⟨hchk, q2⟩ := q2
      obtain ⟨hgo, hyl⟩ := (wk i S2 φ2 H2 l12 t2 s2 hchk).1 _ (List.getElem?_eq_getElem hlt)
      refine .inr ⟨hgo, Wp (i + 1), fun H' w' => ⟨ds.length - (i + 1), by omega, rfl, hlt, w'⟩, fun v H3 hy => ?_⟩
      obtain ⟨t3, s3, r3⟩ := hyl v H3 hy
      have e3 : EnvRel X.K φ2 H3 (wipeD ρ (own.map (·.2))) (wipe σ (own.map (·.2))) := ((hee.mono l1 t1).mono l12 (t2.trans t3)).wipe _
      refine ⟨_, _, S2, φ2, _, r3, e3, s3, q2, fun ρ4 S4 σ4 H4 φ4 l4 t4 e4 s4 o4 q4 => ⟨o4.wipe2 hsl, ?_⟩⟩
      refine ⟨ρ4, S4, φ4, _, e4, s4, q4, fun k S5 H5 φ5 l5 t5 s5 q5 => ?_⟩
      cases k with
      | true =>
        refine ⟨ρ4, S5, φ5, _, e4.mono l5 t5, s5, q5, fun d6 S6 v6 H6 φ6 l6 t6 s6 r6 q6 => ?_⟩
        obtain ⟨acc, ea, el, q6⟩ := q6
        have hD : φ6[S1.length]? = some Da := ((l2.trans l4).trans (l5.trans l6)) _ _ hix
        obtain ⟨us, f1, ru⟩ := s6.ob _ _ _ hD ea
        refine ⟨us, f1, lim_lt (by rw [ru.length]; exact el), S6.set S1.length (.lst (acc ++ [d6])), φ6, (l2.trans l4).trans (l5.trans l6), ?_, ?_, q6⟩
        · exact ((t2.trans t3).trans t4).trans ((t5.trans t6).trans (TupLe.mut f1))
        · exact s6.put hD f1 (ru.app (.cons r6 .nil))
      | false => exact ⟨S5, φ5, (l2.trans l4).trans l5, ((t2.trans t3).trans t4).trans t5, s5, q5⟩
    · have e : i = ds.length := by omega
      subst e
      rw [List.drop_length] at q2
      obtain ⟨hchk, q2⟩ := q2
      refine .inl ⟨(wk _ S2 φ2 H2 l12 t2 s2 hchk).2 (Nat.le_refl _), ?_⟩
      exact hp _ _ _ _ φ2 (l1.trans l12) (t1.trans t2) s2 (.ref (l2 _ _ hix)) q2

/-! ### statements -/
theorem snd_ret (ha : PE X a (sE fs X.K x)) : PS X (.Return (some a) p) (sS fs X.K (.ret x)) :=
  (ps_ret ha).sub fun D σ H ⟨ρ, S, φ, E, he, hs, hw, hp⟩ => ⟨ρ, S, φ, E.rt, he, hs, hw, hp.rt⟩
theorem snd_retN : PS X (.Return none p) (sS fs X.K .retN) :=
  ps_retN.sub fun D σ H ⟨ρ, S, φ, E, he, hs, hw, hp⟩ => hp.rt.here hs .non hw
theorem here_nx {K : PySem.W.Frag} {φ : List Addr} {H : Hp} {D : Ends} {E : DEnds} {ρ : En} {σ : L2.St} {S : Sto} (hp : PostS K φ H D E) (he : EnvRel K φ H ρ σ) (hs : SRel K φ S H) (q : E.nx ρ S) : D.nx σ H := hp.nx _ _ _ _ φ (Le.refl φ) (TupLe.refl H) he hs q
theorem snd_pass : PS X (.Pass p) (sS fs X.K .pass) := ps_pass.sub fun D σ H ⟨ρ, S, φ, E, he, hs, hw, hp⟩ => here_nx hp he hs hw
theorem snd_doc {n : Str} {k : Nat} {p2 : Pos} : PS X (.Expr (.Constant (.str n) k p2) p) (sS fs X.K .pass) := ps_doc.sub fun D σ H ⟨ρ, S, φ, E, he, hs, hw, hp⟩ => here_nx hp he hs hw
theorem snd_brk : PS X (.Break p) (sS fs X.K .brk) := ps_break.sub fun D σ H ⟨ρ, S, φ, E, he, hs, hw, hp⟩ => hp.bk _ _ _ _ φ (Le.refl φ) (TupLe.refl H) he hs hw
theorem snd_cont : PS X (.Continue p) (sS fs X.K .cont) := ps_continue.sub fun D σ H ⟨ρ, S, φ, E, he, hs, hw, hp⟩ => hp.ct _ _ _ _ φ (Le.refl φ) (TupLe.refl H) he hs hw
theorem snd_expr (ha : PE X a (sE fs X.K x)) (h : swapsWith a none p.line X.env = pure false) : PS X (.Expr a p) (sS fs X.K (.expr x)) := by
  refine (ps_expr ha h).sub fun D σ H ⟨ρ, S, φ, E, he, hs, hw, hp⟩ => ?_
  exact ⟨ρ, S, φ, _, he, hs, hw, fun d S1 v H1 φ1 l t s r q => hp.nx _ _ _ _ φ1 l t (he.mono l t) s q⟩
theorem asg_read {g : IG} {D : Ends} {σ : L2.St} {H : Hp} (h : sS fs X.K (.asg g x) D σ H) : tAsg (sE fs X.K x) (sG fs X.K g) D σ H := by
  obtain ⟨ρ, S, φ, E, he, hs, hw, hp⟩ := h
  refine ⟨ρ, S, φ, _, he, hs, hw, fun d S1 v H1 φ1 l t s r q => ?_⟩
  exact ⟨d, ρ, S1, φ1, E.nx, r, he.mono l t, s, q, fun ρ2 S2 σ2 H2 φ2 l2 t2 e2 s2 _ q2 => hp.nx _ _ _ _ φ2 (l.trans l2) (t.trans t2) e2 s2 q2⟩
theorem snd_asg {tg : Expr} {g : IG} (ha : PE X a (sE fs X.K x)) (hg : PG X tg (sG fs X.K g)) (h1 : swapsWithSole [tg] a p.line X.env = pure false) (h2 : swappedStores [tg] a X.env = pure none) (h3 : (assignEach [tg] X.env).map (·.2) = [assign tg X.env]) :
    PS X (.Assign [tg] a p) (sS fs X.K (.asg g x)) :=
  (ps_asg ha hg h1 h2 h3).sub fun D σ H h => asg_read h
theorem gName_read {i : Nat} {v : V} {σ : L2.St} {H : Hp} {Q : L2.St → Hp → Prop} (h : sG fs X.K (.name i) v σ H Q) : gName i v σ H Q := by
  obtain ⟨d, ρ, S, φ, QD, r, he, hs, hw, hp⟩ := h
  exact hp _ _ _ _ φ (Le.refl φ) (TupLe.refl H) (he.set i r) hs (Only.set σ i _) hw
theorem asgN_read {i : Nat} {D : Ends} {σ : L2.St} {H : Hp} (h : sS fs X.K (.asg (.name i) x) D σ H) : tAsg (sE fs X.K x) (gName i) D σ H := by
  obtain ⟨ρ, S, φ, E, he, hs, hw, hp⟩ := h
  refine ⟨ρ, S, φ, _, he, hs, hw, fun d S1 v H1 φ1 l t s r q => ?_⟩
  exact hp.nx _ _ _ _ φ1 l t ((he.mono l t).set i r) s q
theorem snd_set {n : Str} {i : Nat} {pn : Pos} (ok : CxOk fs X C) (hi : idxOf C.N n = some i) (ho : C.okSt n = true) (ha : PE X a (sE fs X.K x)) (h1 : swapsWith a (some (.Name n pn)) p.line X.env = pure false) : PS X (.Assign [.Name n pn] a p) (sS fs X.K (.asg (.name i) x)) := by
  have hst : (X.env.scope.names.lookup n = some .local) ∨ (X.env.scope.names.lookup n = some .cell ∧ X.fn n = true) := by
    rw [ok.sc]
    unfold Ctx.okSt Ctx.kind at ho
    split at ho
    · rename_i e; exact .inl e
    · rename_i e; exact .inr ⟨e, ok.fnc n ho⟩
    · cases ho
  have hl : Loc X.env.scope n := hst.elim .inl fun z => .inr z.1
  exact (ps_set ok.nd (by rw [ok.hN]; exact idxOf_get hi) hl ha h1 (hst.elim .inr fun z => .inl z.2)).sub fun D σ H h => asgN_read h
theorem snd_par {n m : Str} {i j : Nat} {pn pm pt pt2 : Pos} {k1 k2 : Nat} (ok : CxOk fs X C) (hi : idxOf C.N n = some i) (hj : idxOf C.N m = some j) (hij : i ≠ j) (hn : C.kind n = some .local) (hm : C.kind m = some .local) (ha : PE X a (sE fs X.K x)) (hb : PE X b (sE fs X.K y))
    (he : starEach [a, b] X.env = [(false, eval a X.env), (false, eval b X.env)]) (he2 : starEach [b] X.env = [(false, eval b X.env)])
    (hw : swappedStores [.Tuple [.Name n pn, .Name m pm] k1 pt] (.Tuple [a, b] k2 pt2) X.env = pure (some [n, m])) :
    PS X (.Assign [.Tuple [.Name n pn, .Name m pm] k1 pt] (.Tuple [a, b] k2 pt2) p) (sS fs X.K (.par i j x y)) := by
  refine (ps_par ok.calm ok.nd (by rw [ok.hN]; exact idxOf_get hi) (by rw [ok.hN]; exact idxOf_get hj) hij (by rw [ok.sc]; exact hn) (by rw [ok.sc]; exact hm) (pa_cons ha (pa_cons hb pa_nil (by rw [he2]; rfl)) (by rw [he, he2])) hw rfl).sub fun D σ H ⟨ρ, S, φ, E, hee, hs, hww, hp⟩ => ?_
  exact two hee hs hww fun dx dy S2 vx vy H2 φ2 l t s r1 r2 q => ⟨vx, vy, rfl, hp.nx _ _ _ _ φ2 l t (((hee.mono l t).set i r1).set j r2) s q⟩
theorem snd_if {aa bb : List Stmt} {t : IT} {u w : IB} (hc : PT X c (sT fs X.K t)) (ha : PSs X aa (sB fs X.K u)) (hb : PSs X bb (sB fs X.K w)) : PS X (.If c aa bb p) (sS fs X.K (.ifs t u w)) := by
  refine (ps_if hc ha hb).sub fun D σ H ⟨ρ, S, φ, E, he, hs, hw, hp⟩ => ?_
  refine ⟨ρ, S, φ, _, he, hs, hw, fun k S1 H1 φ1 l t s q => ?_⟩
  cases k with
  | true => exact ⟨ρ, S1, φ1, E, he.mono l t, s, q, hp.mono l t⟩
  | false => exact ⟨ρ, S1, φ1, E, he.mono l t, s, q, hp.mono l t⟩
theorem snd_for {tg iter : Expr} {body : List Stmt} {g : IG} {it : II} {u : IB} (ok : CxOk fs X C) (hi : PI X tg iter (sI fs X.K it)) (hg : PG X tg (sG fs X.K g)) (hb : PSs X body (sB fs X.K u)) (hs : ∀ v, foldedSetIterable iter X.env v = pure v) :
    PS X (.For tg iter body [] p) (sS fs X.K (.fr g it u)) := by
  refine (ps_for (by rw [ok.xe]; exact PassesOwn.never) ok.calm hi hg hb hs).sub fun D σ H ⟨ρ, S, φ, E, he, hs, hw, hp⟩ => ?_
  refine ⟨ρ, S, φ, _, he, hs, hw, fun ds chk S1 J H1 φ1 l1 t1 s1 wk q1 => ?_⟩
  let Wp : Nat → L2.St → Hp → Prop := fun i σ H => ∃ (ρ : En) (S : Sto) (φ : List Addr), Le φ1 φ ∧ TupLe H1 H ∧ EnvRel X.K φ H ρ σ ∧ SRel X.K φ S H ∧
    fLoop chk (fun d ρ' S' k => wG fs g d ρ' S' k) (fun E' ρ' S' => wB fs u E' ρ' S') E (ds.drop i) ρ S
  refine ⟨fun i m σ H => m = ds.length - i ∧ i ≤ ds.length ∧ Wp i σ H, ⟨ds.length, by simp, Nat.zero_le _, ρ, S1, φ1, Le.refl _, TupLe.refl _, he.mono l1 t1, s1, by rw [List.drop_zero]; exact q1⟩, ?_⟩
  rintro i m σ2 H2 ⟨rfl, hile, ρ2, S2, φ2, l2, t2, e2, s2, q2⟩
  by_cases hlt : i < ds.length
  · rw [List.drop_eq_getElem_cons hlt] at q2
    obtain ⟨hchk, q2⟩ := q2
    obtain ⟨hgo, hyl⟩ := (wk i S2 φ2 H2 l2 t2 s2 hchk).1 _ (List.getElem?_eq_getElem hlt)
    refine .inr ⟨hgo, Wp (i + 1), fun σ' H' w' => ⟨ds.length - (i + 1), by omega, rfl, hlt, w'⟩, fun v H3 hy => ?_⟩
    obtain ⟨t3, s3, r3⟩ := hyl v H3 hy
    refine ⟨_, ρ2, S2, φ2, _, r3, e2.mono (Le.refl _) t3, s3, q2, fun ρ4 S4 σ4 H4 φ4 l4 t4 e4 s4 _ q4 => ?_⟩
    refine ⟨ρ4, S4, φ4, _, e4, s4, q4, ?_⟩
    have L4 : Le φ φ4 := l1.trans (l2.trans l4)
    have T4 : TupLe H H4 := t1.trans (t2.trans (t3.trans t4))
    exact ⟨fun ρ5 S5 σ5 H5 φ5 l5 t5 e5 s5 q5 => ⟨ρ5, S5, φ5, (l2.trans l4).trans l5, ((t2.trans t3).trans t4).trans t5, e5, s5, q5⟩, hp.rt.mono L4 T4,
      fun ρ5 S5 σ5 H5 φ5 l5 t5 e5 s5 q5 => hp.nx _ _ _ _ φ5 (L4.trans l5) (T4.trans t5) e5 s5 q5,
      fun ρ5 S5 σ5 H5 φ5 l5 t5 e5 s5 q5 => ⟨ρ5, S5, φ5, (l2.trans l4).trans l5, ((t2.trans t3).trans t4).trans t5, e5, s5, q5⟩⟩
  · have e : i = ds.length := by omega
    subst e
    rw [List.drop_length] at q2
    obtain ⟨hchk, q2⟩ := q2
    exact .inl ⟨(wk _ S2 φ2 H2 l2 t2 s2 hchk).2 (Nat.le_refl _), hp.nx _ _ _ _ φ2 (l1.trans l2) (t1.trans t2) e2 s2 q2⟩
theorem snd_wh {body : List Stmt} {t : IT} {u : IB} (ok : CxOk fs X C) (hc : PT X c (sT fs X.K t)) (hb : PSs X body (sB fs X.K u)) : PS X (.While c body [] p) (sS fs X.K (.wh t u)) := by
  refine (ps_while (by rw [ok.xe]; exact PassesOwn.never) hc hb).sub fun D σ H ⟨ρ, S, φ, E, he, hs, hw, hp⟩ => ?_
  obtain ⟨n, hw⟩ := hw
  let Wp : Nat → L2.St → Hp → Prop := fun m σ' H' => ∃ (ρ : En) (S : Sto) (φ' : List Addr), Le φ φ' ∧ TupLe H H' ∧ EnvRel X.K φ' H' ρ σ' ∧ SRel X.K φ' S H' ∧
    hLoop (fun ρ' S' k => wT fs t ρ' S' k) (fun E' ρ' S' => wB fs u E' ρ' S') E m ρ S
  refine ⟨Wp, ⟨n, ρ, S, φ, Le.refl _, TupLe.refl _, he, hs, hw⟩, ?_⟩
  rintro m σ2 H2 ⟨ρ2, S2, φ2, l2, t2, e2, s2, q2⟩
  cases m with
  | zero => exact q2.elim
  | succ m =>
    refine ⟨ρ2, S2, φ2, _, e2, s2, q2, fun k S3 H3 φ3 l3 t3 s3 q3 => ?_⟩
    cases k with
    | true =>
      refine ⟨Wp m, fun σ' H' w => ⟨m, Nat.lt_succ_self m, w⟩, ρ2, S3, φ3, _, e2.mono l3 t3, s3, q3, ?_⟩
      have L3 : Le φ φ3 := l2.trans l3
      have T3 : TupLe H H3 := t2.trans t3
      exact ⟨fun ρ5 S5 σ5 H5 φ5 l5 t5 e5 s5 q5 => ⟨ρ5, S5, φ5, L3.trans l5, T3.trans t5, e5, s5, q5⟩, hp.rt.mono L3 T3,
        fun ρ5 S5 σ5 H5 φ5 l5 t5 e5 s5 q5 => hp.nx _ _ _ _ φ5 (L3.trans l5) (T3.trans t5) e5 s5 q5,
        fun ρ5 S5 σ5 H5 φ5 l5 t5 e5 s5 q5 => ⟨ρ5, S5, φ5, L3.trans l5, T3.trans t5, e5, s5, q5⟩⟩
    | false => exact hp.nx _ _ _ _ φ3 (l2.trans l3) (t2.trans t3) (e2.mono l3 t3) s3 q3
theorem snd_bnil : PSs X [] (sB fs X.K .nil) := pss_nil.sub fun D σ H ⟨ρ, S, φ, E, he, hs, hw, hp⟩ => here_nx hp he hs hw
theorem snd_bcons {st : Stmt} {r : List Stmt} {u : IS} {w : IB} (h1 : PS X st (sS fs X.K u)) (h2 : PSs X r (sB fs X.K w)) : PSs X (st :: r) (sB fs X.K (.cons u w)) := by
  refine (pss_cons h1 h2).sub fun D σ H ⟨ρ, S, φ, E, he, hs, hw, hp⟩ => ?_
  refine ⟨ρ, S, φ, _, he, hs, hw, ?_⟩
  exact ⟨fun ρ' S' σ' H' φ' l t e s q => ⟨ρ', S', φ', E, e, s, q, hp.mono l t⟩, hp.rt, hp.bk, hp.ct⟩
end
end DW

set_option Elab.async false
set_option linter.all false
set_option maxRecDepth 100000
set_option maxHeartbeats 4000000
namespace DW
open PySem PySem.Spec PyProof.Rows L2

theorem star_of {n : Nat} {C : Ctx} {e : Expr} {ie : IE} (h : compE n C e = some ie) (r : List Expr) (env : Env) : starEach (e :: r) env = (false, eval e env) :: starEach r env := by
  cases n with
  | zero => cases h
  | succ n => cases e <;> first | rfl | (simp only [compE] at h; cases h)
theorem backTo_any (p : Pos) (xs : List (Bool × Sem Value)) : (backTo p xs).any (·.1) = xs.any (·.1) := by
  unfold backTo
  rw [List.any_map]
  rfl
theorem star_any {n : Nat} {C : Ctx} : ∀ {es : List Expr} {as : IA} (env : Env), compA (compE n C) es = some as → (starEach es env).any (·.1) = false
  | [], _, _, _ => rfl
  | e :: r, as, env, h => by
    unfold compA at h
    cases h1 : compE n C e with
    | none => rw [h1] at h; cases h
    | some a =>
      rw [h1] at h
      cases h2 : compA (compE n C) r with
      | none => rw [h2] at h; cases h
      | some b =>
        rw [star_of h1, List.any_cons, star_any env h2]
        rfl
theorem plain_of {n : Nat} {C : Ctx} {e : Expr} {ie : IE} (h : compE n C e = some ie) : PlainIx e := by
  cases n with
  | zero => cases h
  | succ n => cases e <;> first | exact fun _ _ => rfl | (simp only [compE] at h; cases h)
theorem nosl_of {n : Nat} {C : Ctx} {e : Expr} {ie : IE} (h : compE n C e = some ie) : NoSl e := by
  cases n with
  | zero => cases h
  | succ n => cases e <;> first | exact fun _ _ => rfl | (simp only [compE] at h; cases h)
theorem alen_of {f : Expr → Option IE} : ∀ {vs : List Expr} {as : IA}, compA f vs = some as → alen as = vs.length
  | [], as, h => by cases h; rfl
  | e :: r, as, h => by
    simp only [compA] at h
    split at h
    · rename_i a b h1 h2
      cases h
      simp only [alen, List.length_cons, alen_of h2]
    · cases h
theorem keys_len {f : Expr → Option IE} : ∀ {keys : List (Option Expr)} {ks : List Str}, compK f keys = some ks → ks.length = keys.length ∧ True
  | [], ks, h => by cases h; exact ⟨rfl, trivial⟩
  | none :: r, ks, h => by cases h
  | some e :: r, ks, h => by
    simp only [compK] at h
    split at h
    · rename_i k ks' h1 h2
      cases h
      exact ⟨by simp only [List.length_cons, (keys_len h2).1], trivial⟩
    · cases h
theorem pps_of {fs : List FSp} {X : Cx} {n : Nat} {C : Ctx} {dp : Pos} (hE : ∀ e x, compE n C e = some x → PE X e (sE fs X.K x)) : ∀ {keys : List (Option Expr)} {vs : List Expr} {ks : List Str} {as : IA}, compK (compE n C) keys = some ks → compA (compE n C) vs = some as → keys.length = vs.length → PPs X dp keys vs (trsOf fs X.K ks as)
  | [], [], ks, as, h1, h2, _ => by cases h1; cases h2; exact pps_nil
  | [], _ :: _, _, _, _, _, h => by simp at h
  | _ :: _, [], _, _, _, _, h => by simp at h
  | none :: _, _ :: _, _, _, h1, _, _ => by cases h1
  | some e :: r, v :: vs, ks, as, h1, h2, h => by
    simp only [compK] at h1
    split at h1
    · rename_i k ks' q1 q2
      cases h1
      simp only [compA] at h2
      split at h2
      · rename_i a b p1 p2
        cases h2
        exact pps_cons (hE _ _ q1) (hE _ _ p1) (pps_of hE q2 p2 (by simpa using h))
      · cases h2
    · cases h1
theorem mark_of {n : Nat} {C : Ctx} {e : Expr} {ie : IE} (h : compE n C e = some ie) (op : CmpOp) : behindInMarks op e = false := by
  cases n with
  | zero => cases h
  | succ n => cases e <;> first | rfl | (simp only [compE] at h; cases h)
theorem fold_of {n : Nat} {C : Ctx} {e : Expr} {ie : IE} (h : compE n C e = some ie) (env : Env) (v : Value) : foldedSetIterable e env v = pure v := by
  cases n with
  | zero => cases h
  | succ n => cases e <;> first | rfl | (simp only [compE] at h; cases h)
theorem asub_of {n : Nat} {C : Ctx} {o e : Expr} {ie : IE} {p : Pos} {env : Env} (h : compE n C e = some ie) : ∀ v, assign (.Subscript o e p) env v = (do
      let ov ← holding [v] (eval o env)
      let iv ← holding [v, ov] (eval e env)
      standAt p
      holding [v, ov, iv] (setItem ov iv v)
      release [v, ov, iv] []) := by
  cases n with
  | zero => cases h
  | succ n => cases e <;> first | exact fun _ => rfl | (simp only [compE] at h; cases h)
theorem swaps_of {e : Expr} (h : isComp e = false) (t : Option Expr) (l : Nat) (env : Env) : swapsWith e t l env = pure false := by
  cases e <;> first | rfl | cases h

/-- of a fuel -/
structure Snd (fs : List FSp) (n : Nat) : Prop where
  E : ∀ (X : Cx) (C : Ctx) (e : Expr) (ie : IE), CxOk fs X C → compE n C e = some ie → PE X e (sE fs X.K ie)
  T : ∀ (X : Cx) (C : Ctx) (e : Expr) (it : IT), CxOk fs X C → compT n C e = some it → PT X e (sT fs X.K it) ∧ ∀ op es p, e = .BoolOp op es p → PW X e (sT fs X.K it)
  G : ∀ (X : Cx) (C : Ctx) (e : Expr) (g : IG), CxOk fs X C → compG n C e = some g → PG X e (sG fs X.K g)
  I : ∀ (X : Cx) (C : Ctx) (tg e : Expr) (it : II), CxOk fs X C → compI n C tg e = some it → PI X tg e (sI fs X.K it) ∧ ∀ v, foldedSetIterable e X.env v = pure v
  Ts : ∀ (X : Cx) (C : Ctx) (es : List Expr) (t : ITs), CxOk fs X C → compTs n C es = some t → PTs X es (sTs fs X.K t)
  L : ∀ (X : Cx) (C : Ctx) (elt : Expr) (g : Comprehension) (scope : Scope) (r : List Nat × IG × II × ITs × IE), CxOk fs X C → compLc n C elt g scope = some r → ∃ (tg iter : Expr) (ifs : List Expr) (own : List (Str × Nat)), g = ⟨tg, iter, ifs, 0⟩ ∧ r.1 = own.map (·.2) ∧
    blkC C.N C.sc scope own = true ∧ (∀ i ∈ gSlots r.2.1, i ∈ own.map (·.2)) ∧ PI X tg iter (sI fs X.K r.2.2.1) ∧ (∀ v, foldedSetIterable iter X.env v = pure v) ∧
    (∀ (s : Shared) (H : Hp) (A : Addr) (cl : List (Str × Addr)) (fp : List Addr), PG (X.blk s H scope (compEnvC scope cl A X.env) fp) tg (sG fs X.K r.2.1)) ∧
    (∀ (s : Shared) (H : Hp) (A : Addr) (cl : List (Str × Addr)) (fp : List Addr), PTs (X.blk s H scope (compEnvC scope cl A X.env) fp) ifs (sTs fs X.K r.2.2.2.1)) ∧
    (∀ (s : Shared) (H : Hp) (A : Addr) (cl : List (Str × Addr)) (fp : List Addr), PE (X.blk s H scope (compEnvC scope cl A X.env) fp) elt (sE fs X.K r.2.2.2.2))

section
variable {fs : List FSp} {n : Nat}
theorem Snd.A (h : Snd fs n) {X : Cx} {C : Ctx} (ok : CxOk fs X C) : ∀ {es : List Expr} {as : IA}, compA (compE n C) es = some as → PA X es (sA fs X.K as)
  | [], _, e => by cases e; exact snd_anil
  | x :: r, as, e => by
    unfold compA at e
    cases h1 : compE n C x with
    | none => rw [h1] at e; cases e
    | some a =>
      rw [h1] at e
      cases h2 : compA (compE n C) r with
      | none => rw [h2] at e; cases e
      | some b =>
        rw [h2] at e; cases e
        exact snd_acons (h.E X C x a ok h1) (Snd.A h ok h2) (star_of h1 r X.env)
theorem Snd.O (h : Snd fs n) {X : Cx} {C : Ctx} (ok : CxOk fs X C) {e : Option Expr} {o : IO} (q : compO (compE n C) e = some o) : PO X e (sO fs X.K o) := by
  cases e with
  | none => cases q; exact snd_ono
  | some e =>
    simp only [compO] at q
    cases h1 : compE n C e with
    | none => rw [h1] at q; cases q
    | some a => rw [h1] at q; cases q; exact snd_oyes (h.E X C e a ok h1)
theorem asg_star {n : Nat} {C : Ctx} {e : Expr} {g : IG} (h : compG n C e = some g) (r : List Expr) (env : Env) : assignEach (e :: r) env = (false, assign e env) :: assignEach r env := by
  cases n with
  | zero => cases h
  | succ n => cases e <;> first | rfl | (simp only [compG] at h; cases h)
theorem Snd.Gs (h : Snd fs n) {X : Cx} {C : Ctx} (ok : CxOk fs X C) : ∀ {es : List Expr} {gs : IGs}, compGs (compG n C) es = some gs → PGs X es (sGs fs X.K gs) ∧ gsLen gs = es.length ∧ (assignEach es X.env).length = es.length ∧ (assignEach es X.env).findIdx? (·.1) = none
  | [], _, e => by cases e; exact ⟨snd_gnil, rfl, rfl, rfl⟩
  | x :: r, gs, e => by
    unfold compGs at e
    cases h1 : compG n C x with
    | none => rw [h1] at e; cases e
    | some a =>
      rw [h1] at e
      cases h2 : compGs (compG n C) r with
      | none => rw [h2] at e; cases e
      | some b =>
        rw [h2] at e; cases e
        obtain ⟨q1, q2, q3, q4⟩ := Snd.Gs h ok h2
        have hst := asg_star h1 r X.env
        refine ⟨snd_gcons (h.G X C x a ok h1) q1 (by rw [hst]; rfl), ?_, ?_, ?_⟩
        · show gsLen b + 1 = r.length + 1
          rw [q2]
        · rw [hst, List.length_cons, List.length_cons, q3]
        · rw [hst, List.findIdx?_cons]
          simp [q4]

theorem compA_cons {f : Expr → Option IE} {e : Expr} {r : List Expr} {as : IA} (h : compA f (e :: r) = some as) : ∃ a b, f e = some a ∧ compA f r = some b ∧ as = .cons a b := by
  unfold compA at h
  cases h1 : f e with
  | none => rw [h1] at h; cases h
  | some a =>
    rw [h1] at h
    cases h2 : compA f r with
    | none => rw [h2] at h; cases h
    | some b => rw [h2] at h; cases h; exact ⟨a, b, rfl, rfl, rfl⟩
theorem some_map {α β : Type} {o : Option α} {f : α → β} {b : β} (h : o.map f = some b) : ∃ a, o = some a ∧ b = f a := by
  cases o with
  | none => cases h
  | some a => cases h; exact ⟨a, rfl, rfl⟩

theorem snd_all (fs : List FSp) : ∀ n, Snd fs n
  | 0 => {
      E := fun _ _ _ _ _ h => by cases h
      T := fun _ _ _ _ _ h => by cases h
      G := fun _ _ _ _ _ h => by cases h
      I := fun _ _ _ _ _ _ h => by cases h
      Ts := fun _ _ _ _ _ h => by cases h
      L := fun _ _ _ _ _ _ _ h => by cases h }
  | n + 1 => by
    have ih := snd_all fs n
    refine ⟨?E, ?T, ?G, ?I, ?Ts, ?L⟩
    case E =>
      intro X C e ie ok h
      cases e with
      | Constant cc k p =>
        simp only [compE] at h
        obtain ⟨d, h1, rfl⟩ := some_map h
        exact snd_const h1
      | Name x p =>
        simp only [compE] at h
        split at h
        · rename_i hn
          split at h
          · rename_i hk
            obtain ⟨i, h1, rfl⟩ := some_map h
            exact snd_var ok h1 (.inl hk) hn
          · rename_i hk
            obtain ⟨i, h1, rfl⟩ := some_map h
            exact snd_var ok h1 (.inr (.inl hk)) hn
          · rename_i hk
            obtain ⟨i, h1, rfl⟩ := some_map h
            exact snd_var ok h1 (.inr (.inr hk)) hn
          · rename_i hk
            split at h
            · rename_i d hd
              cases h
              exact snd_con ok hk hd hn
            · split at h
              · rename_i hb
                obtain ⟨t, h1, rfl⟩ := some_map h
                exact snd_ty ok hk hb h1 hn
              · cases h
          · cases h
        · cases h
      | Tuple es k p =>
        simp only [compE] at h
        obtain ⟨as, h1, rfl⟩ := some_map h
        exact snd_tup (ih.A ok h1)
      | List es p =>
        simp only [compE] at h
        obtain ⟨as, h1, rfl⟩ := some_map h
        exact snd_lst (ih.A ok h1)
      | BinOp a op b p =>
        simp only [compE] at h
        split at h
        · rename_i x y h1 h2
          cases h
          exact snd_bin (ih.E X C a x ok h1) (ih.E X C b y ok h2)
        · cases h
      | UnaryOp op a p =>
        cases op with
        | Not =>
          simp only [compE] at h
          obtain ⟨x, h1, rfl⟩ := some_map h
          exact snd_not (ih.E X C a x ok h1)
        | USub =>
          simp only [compE] at h
          obtain ⟨x, h1, rfl⟩ := some_map h
          exact snd_neg (ih.E X C a x ok h1)
        | Invert => simp only [compE] at h; cases h
        | UAdd => simp only [compE] at h; cases h
      | BoolOp op es p =>
        match es, h with
        | [], h => simp only [compE] at h; cases h
        | [a], h =>
          simp only [compE] at h
          exact pe_one (ih.E X C a ie ok h)
        | a :: b :: r, h =>
          simp only [compE] at h
          split at h
          · rename_i x y h1 h2
            cases h
            cases op with
            | And => exact snd_and (ih.E X C a x ok h1) (ih.E X C _ y ok h2)
            | Or => exact snd_or (ih.E X C a x ok h1) (ih.E X C _ y ok h2)
          · cases h
      | Compare a ops es p =>
        simp only [compE] at h
        split at h
        · split at h
          · rename_i h1 h2
            cases h
            exact snd_cmp ok (ih.E X C a _ ok h1) (ih.E X C _ _ ok h2) (mark_of h2 _)
          · cases h
        · split at h
          · rename_i h1 h2 h3
            cases h
            refine snd_chn ok (ih.E X C a _ ok h1) (ih.E X C _ _ ok h2) (ih.E X C _ _ ok h3) ?_
            show behindInMarks _ _ = false
            exact mark_of h3 _
          · cases h
        · cases h
      | IfExp c a b p =>
        simp only [compE] at h
        split at h
        · rename_i h1 h2 h3
          cases h
          exact snd_ite (ih.T X C c _ ok h1).1 (ih.E X C a _ ok h2) (ih.E X C b _ ok h3)
        · cases h
      | Call f es ks p =>
        simp only [compE] at h
        split at h
        · split at h
          · rename_i hn
            obtain ⟨hn, hk⟩ := hn
            split at h
            · rename_i i hi
              obtain ⟨as, h1, rfl⟩ := some_map h
              cases es with
              | nil => cases h1; exact snd_fn0 ok hk hn hi
              | cons e r =>
                obtain ⟨a, b, g1, g2, _⟩ := compA_cons h1
                exact snd_fn ok hk hn hi (ih.A ok h1) (star_of g1 r X.env) (by rw [backTo_any]; exact star_any X.env g2)
            · split at h
              · rename_i hb
                split at h
                · rename_i f hf
                  obtain ⟨as, h1, rfl⟩ := some_map h
                  cases es with
                  | nil =>
                    exfalso
                    unfold bnOf at hf
                    simp at hf
                  | cons e r =>
                    obtain ⟨a, b, g1, g2, _⟩ := compA_cons h1
                    exact snd_blt ok hk hn hb hf (ih.A ok h1) (star_of g1 r X.env) (by rw [backTo_any]; exact star_any X.env g2)
                · cases h
              · cases h
          · cases h
        · split at h
          · split at h
            · rename_i hm
              obtain ⟨rfl, hl⟩ := hm
              split at h
              · rename_i h1 h2
                cases h
                exact snd_app (ih.E X C _ _ ok h1) (ih.E X C _ _ ok h2) hl (star_of h2 [] X.env)
              · cases h
            · cases h
          · cases h
        · cases h
      | Subscript a i p =>
        simp only [compE] at h
        split at h
        · split at h
          · rename_i h1 h2 h3
            cases h
            exact snd_slc (ih.E X C a _ ok h1) (ih.O ok h2) (ih.O ok h3)
          · cases h
        · split at h
          · rename_i h1 h2
            cases h
            exact snd_idx (ih.E X C a _ ok h1) (ih.E X C _ _ ok h2) (plain_of h2)
          · rename_i h1 h2
            split at h
            · rename_i keys vs dp
              split at h
              · rename_i h3 h4
                split at h
                · rename_i hc
                  obtain ⟨c1, c2, c3, c4, c5⟩ := hc
                  cases h
                  have hE : ∀ e x, compE n C e = some x → PE X e (sE fs X.K x) := fun e x q => ih.E X C e x ok q
                  obtain ⟨q1, q2⟩ := keys_len h3
                  exact snd_dsub (by have := ok.un; omega) (pps_of hE h3 h4 c1) ((alen_of h4).trans (c1.symm.trans q1.symm)) c5 c1 c3 c2 q1 c4 (hE _ _ h2) (nosl_of h2)
                · cases h
              · cases h
            · cases h
          · cases h
      | ListComp elt gs scope p =>
        simp only [compE] at h
        split at h
        · split at h
          · rename_i g' it' t' e' h1
            cases h
            obtain ⟨tg, iter, ifs, own, rfl, e1, hb, hsl, hi, hf, hg, ht, he⟩ := ih.L X C elt _ scope _ ok h1
            simp only at e1 hsl hi hg ht he
            subst e1
            obtain ⟨bo, hr⟩ := snd_lcp ok hb hsl hi hg ht he hf
            exact (pe_lc ok.calm ok.nd hi bo hg ht he hf).sub hr
          · cases h
        · cases h
      | _ => simp only [compE] at h; cases h
    case T =>
      intro X C e it ok h
      have other : (∀ op es p, e ≠ .BoolOp op es p) → PT X e (sT fs X.K it) → PT X e (sT fs X.K it) ∧ ∀ op es p, e = .BoolOp op es p → PW X e (sT fs X.K it) := fun hne q => ⟨q, fun op es p z => absurd z (hne op es p)⟩
      have val : ∀ {e : Expr} {it : IT}, (compE n C e).map .val = some it → (∀ whole, isTrue e X.env whole = (do let v ← whole; standAt e.pos; holding [v] (truthy v))) → PT X e (sT fs X.K it) := fun {e it} q hp => by
        obtain ⟨x, h1, rfl⟩ := some_map q
        exact snd_tval (ih.E X C e x ok h1) hp
      cases e with
      | UnaryOp op a p =>
        refine other (fun _ _ _ z => by cases z) ?_
        cases op with
        | Not =>
          simp only [compT] at h
          obtain ⟨x, h1, rfl⟩ := some_map h
          exact snd_tnot (ih.T X C a x ok h1).1
        | USub => simp only [compT] at h; exact val h fun _ => rfl
        | Invert => simp only [compT] at h; exact val h fun _ => rfl
        | UAdd => simp only [compT] at h; exact val h fun _ => rfl
      | BoolOp op es p =>
        have pw : PW X (.BoolOp op es p) (sT fs X.K it) := by
          match es, h with
          | [], h => simp only [compT] at h; cases h
          | [a], hh =>
            simp only [compT] at hh
            have q := (ih.T X C a it ok hh).1
            cases op with
            | And => exact pw_and1 q
            | Or => exact pw_or1 q
          | a :: b :: r, h =>
            simp only [compT] at h
            split at h
            · rename_i x y h1 h2
              cases h
              cases op with
              | And => exact snd_tand (ih.T X C a x ok h1).1 ((ih.T X C _ y ok h2).2 _ _ _ rfl)
              | Or => exact snd_tor (ih.T X C a x ok h1).1 ((ih.T X C _ y ok h2).2 _ _ _ rfl)
            · cases h
        exact ⟨pw.pt, fun _ _ _ z => by cases z; exact pw⟩
      | Compare a ops es p =>
        refine other (fun _ _ _ z => by cases z) ?_
        simp only [compT] at h
        split at h
        · split at h
          · rename_i h1 h2
            cases h
            exact snd_tcmp ok (ih.E X C a _ ok h1) (ih.E X C _ _ ok h2) (mark_of h2 _)
          · cases h
        · split at h
          · rename_i h1 h2 h3
            cases h
            refine snd_tchn ok (ih.E X C a _ ok h1) (ih.E X C _ _ ok h2) (ih.E X C _ _ ok h3) ?_
            show behindInMarks _ _ = false
            exact mark_of h3 _
          · cases h
        · cases h
      | IfExp c a b p => simp only [compT] at h; cases h
      | _ => exact other (fun _ _ _ z => by cases z) (by simp only [compT] at h; exact val h fun _ => rfl)
    case G =>
      intro X C e g ok h
      cases e with
      | Name x p =>
        simp only [compG] at h
        split at h
        · rename_i ho
          obtain ⟨i, h1, rfl⟩ := some_map h
          exact snd_gname ok h1 ho
        · cases h
      | Tuple es k p =>
        simp only [compG] at h
        obtain ⟨gs, h1, rfl⟩ := some_map h
        obtain ⟨q1, q2, q3, q4⟩ := ih.Gs ok h1
        exact snd_gtup ok q1 q2 q3 q4
      | Subscript o i p =>
        simp only [compG] at h
        split at h
        · cases h
        · split at h
          · rename_i h1 h2
            cases h
            exact snd_gsub (ih.E X C o _ ok h1) (ih.E X C _ _ ok h2) (asub_of h2)
          · cases h
      | _ => simp only [compG] at h; cases h
    case I =>
      intro X C tg e it ok h
      have val : ∀ {e : Expr} {it : II}, (compE n C e).map .val = some it → PI X tg e (sI fs X.K it) ∧ ∀ v, foldedSetIterable e X.env v = pure v := fun {e it} q => by
        obtain ⟨x, h1, rfl⟩ := some_map q
        exact ⟨snd_ival (ih.E X C e x ok h1), fold_of h1 X.env⟩
      simp only [compI] at h
      split at h
      · split at h
        · rename_i hr
          obtain ⟨rfl, hk, hb⟩ := hr
          refine ⟨?_, fun _ => rfl⟩
          split at h
          · obtain ⟨x, h1, rfl⟩ := some_map h
            exact snd_irng1 ok hk hb (ih.E X C _ x ok h1) (star_of h1 [] X.env)
          · split at h
            · rename_i h1 h2
              cases h
              exact snd_irng2 ok hk hb (ih.E X C _ _ ok h1) (ih.E X C _ _ ok h2) (by rw [star_of h1, star_of h2]; rfl) (star_of h2 [] X.env)
            · cases h
          · cases h
        · split at h
          · rename_i hr
            obtain ⟨rfl, hk, hb, ht⟩ := hr
            refine ⟨?_, fun _ => rfl⟩
            split at h
            · obtain ⟨x, h1, rfl⟩ := some_map h
              cases tg with
              | Tuple es kk tp => exact snd_ienum ok hk hb (ih.E X C _ x ok h1) (star_of h1 [] X.env)
              | _ => cases ht
            · cases h
          · split at h
            · rename_i hr
              obtain ⟨rfl, hk, hb, ht⟩ := hr
              refine ⟨?_, fun _ => rfl⟩
              split at h
              · split at h
                · rename_i h1 h2
                  cases h
                  cases tg with
                  | Tuple es kk tp => exact snd_izip ok hk hb (ih.E X C _ _ ok h1) (ih.E X C _ _ ok h2) (by rw [star_of h1, star_of h2]; rfl) (star_of h2 [] X.env)
                  | _ => cases ht
                · cases h
              · cases h
            · exact val h
      · exact val h
    case Ts =>
      intro X C es t ok h
      simp only [compTs] at h
      split at h
      · cases h; exact snd_tsnil
      · obtain ⟨x, h1, rfl⟩ := some_map h
        exact snd_tsone (ih.T X C _ x ok h1).1
      · cases h
    case L =>
      intro X C elt g scope r ok h
      simp only [compLc] at h
      split at h
      · rename_i hc
        obtain ⟨ha, hb⟩ := hc
        split at h
        · rename_i a b c d h1 h2 h3 h4
          split at h
          · rename_i hs
            cases h
            obtain ⟨tg, iter, ifs, asy⟩ := g
            simp only at ha h1 h2 h3
            subst ha
            have ok' := fun (s : Shared) (H : Hp) (A : Addr) (cl : List (Str × Addr)) (fp : List Addr) => blk_ok (s := s) (H := H) (scope := scope) (A := A) (cl := cl) (fp := fp) ok
            refine ⟨tg, iter, ifs, ownOf C.N scope.names, rfl, rfl, hb, fun i hi => ?_, (ih.I X C tg iter b ok h2).1, (ih.I X C tg iter b ok h2).2, fun s H A cl fp => ih.G _ _ tg a (ok' s H A cl fp) h1, fun s H A cl fp => ih.Ts _ _ ifs c (ok' s H A cl fp) h3, fun s H A cl fp => ih.E _ _ elt d (ok' s H A cl fp) h4⟩
            have q := List.all_eq_true.mp hs i hi
            simpa using q
          · cases h
        · cases h
      · cases h
end
end DW

set_option Elab.async false
set_option linter.all false
set_option maxRecDepth 100000
set_option maxHeartbeats 4000000
namespace DW
open PySem PySem.Spec PyProof.Rows L2

theorem swapped_par {n m : Str} {pn pm pt pt2 : Pos} {k1 k2 : Nat} {a b : Expr} {env : Env} (hk : env.scope.kind = .function) (hne : n ≠ m) (hn : env.scope.names.lookup n = some .local) (hm : env.scope.names.lookup m = some .local) (hl : (pm.line == pn.line) = true)
    (h1 : [a, b].all (foldedForSure 8) = false) (h2 : [a, b].all (constantsAlone 8) = false) (hs : ∀ env, starEach [a, b] env = [(false, eval a env), (false, eval b env)]) :
    swappedStores [.Tuple [.Name n pn, .Name m pm] k1 pt] (.Tuple [a, b] k2 pt2) env = pure (some [n, m]) := by
  have hb : env.blockKind = .function := by unfold Env.blockKind; rw [hk]; rfl
  have ka : env.kindOf n = some .local := hn
  have kb : env.kindOf m = some .local := hm
  have hnm : (m == n) = false := by simpa using Ne.symm hne
  have hnm2 : (n == m) = false := by simpa using hne
  have e : [n, m].eraseDups = [n, m] := by
    simp [List.eraseDups, List.eraseDupsBy, List.eraseDupsBy.loop, hnm, hnm2]
  unfold swappedStores
  simp only [List.length_cons, List.length_nil, hb, List.filterMap_cons, List.filterMap_nil, ka, kb, List.head?_cons, Option.map_some, Option.getD_some, Expr.pos, hl, beq_self_eq_true, Bool.and_self, if_true, h1, h2, e]
  refine (if_neg ?_).trans ?_
  · simp
  refine (if_neg ?_).trans ?_
  · intro hc
    rw [List.any_cons, List.any_cons, List.any_nil, Bool.or_false, Bool.or_eq_true] at hc
    have q := hs env
    rcases hc with hc | hc
    · cases a <;> first | (exact absurd (show false = true from hc) Bool.false_ne_true) | (simp [starEach] at q)
    · cases b <;> first | (exact absurd (show false = true from hc) Bool.false_ne_true) | (cases a <;> simp [starEach] at q)
  simp
theorem snd_sb (fs : List FSp) : ∀ (n : Nat), (∀ (X : Cx) (C : Ctx) (s : Stmt) (u : IS), CxOk fs X C → compS n C s = some u → PS X s (sS fs X.K u)) ∧ (∀ (X : Cx) (C : Ctx) (ss : List Stmt) (u : IB), CxOk fs X C → compB n C ss = some u → PSs X ss (sB fs X.K u))
  | 0 => ⟨fun _ _ _ _ _ h => (by cases h), fun _ _ _ _ _ h => (by cases h)⟩
  | n + 1 => by
    obtain ⟨ihS, ihB⟩ := snd_sb fs n
    have ih := snd_all fs n
    refine ⟨fun X C s u ok h => ?_, fun X C ss u ok h => ?_⟩
    · cases s with
      | Return v p =>
        simp only [compS] at h
        split at h
        · obtain ⟨x, h1, rfl⟩ := some_map h
          exact snd_ret (ih.E X C _ x ok h1)
        · cases h; exact snd_retN
      | Expr e p =>
        simp only [compS] at h
        split at h
        · cases h; exact snd_doc
        · split at h
          · cases h
          · rename_i hc
            obtain ⟨x, h1, rfl⟩ := some_map h
            exact snd_expr (ih.E X C _ x ok h1) (swaps_of (by simpa using hc) _ _ _)
      | Assign ts v p =>
        simp only [compS] at h
        split at h
        · -- a name
          rename_i x px
          split at h
          · rename_i e i h1 h2
            by_cases hc : isComp v = true
            · rw [if_pos hc] at h
              by_cases hk : okLc C x px v = true
              · rw [if_pos hk] at h
                cases h
                cases v with
                | ListComp elt gs scope p2 =>
                  simp only [okLc, Bool.and_eq_true, decide_eq_true_eq, Bool.not_eq_true'] at hk
                  obtain ⟨⟨⟨k1, k2⟩, k3⟩, k4⟩ := hk
                  have hsw : swapsWith (.ListComp elt gs scope p2) (some (.Name x px)) p.line X.env = pure true :=
                    sw_true (by rw [ok.sc]; exact k2) (by rw [ok.sc]; exact k1) k3 k4
                  cases n with
                  | zero => cases h1
                  | succ n =>
                    have ih2 := snd_all fs n
                    simp only [compE] at h1
                    split at h1
                    · split at h1
                      · rename_i g' it' t' e' h3
                        cases h1
                        obtain ⟨tg, iter, ifs, own, rfl, e1, hb, hsl, hi, hf, hg, ht, he⟩ := ih2.L X C elt _ scope _ ok h3
                        simp only at e1 hsl hi hg ht he
                        subst e1
                        obtain ⟨bo, hr⟩ := snd_lcp ok hb hsl hi hg ht he hf
                        refine (ps_setLc (i := i) ok.calm ok.nd (by rw [ok.hN]; exact idxOf_get h2) (by rw [ok.sc]; exact k1) hsw hi bo hg ht he hf).sub fun D σ H q => ?_
                        have z := asgN_read q
                        obtain ⟨ρ, S, φ, QD, w1, w2, w3, w4⟩ := z
                        exact hr _ _ _ ⟨ρ, S, φ, QD, w1, w2, w3, w4⟩
                      · cases h1
                    · cases h1
                | _ => cases hk
              · rw [if_neg hk] at h; cases h
            · rw [if_neg hc] at h
              split at h
              · rename_i ho
                cases h
                exact snd_set ok h2 ho (ih.E X C v e ok h1) (swaps_of (by simpa using hc) _ _ _)
              · cases h
          · cases h
        · -- several targets
          split at h
          · rename_i vs kv pv
            split at h
            · rename_i x px y py a b
              split at h
              · rename_i i j ea eb h1 h2 h3 h4
                split at h
                · rename_i hk
                  obtain ⟨k1, k2, k3, k4, k5, k6, k7, k8⟩ := hk
                  cases h
                  have st : ∀ env, starEach [a, b] env = [(false, eval a env), (false, eval b env)] := fun env => by rw [star_of h3, star_of h4]; rfl
                  exact snd_par ok h1 h2 k1 k3 k4 (ih.E X C a ea ok h3) (ih.E X C b eb ok h4) (st _) (star_of h4 [] X.env)
                    (swapped_par (by rw [ok.sc]; exact k5) k2 (by rw [ok.sc]; exact k3) (by rw [ok.sc]; exact k4) k6 k7 k8 st)
                · cases h
              · cases h
            · cases h
          · rename_i _ hv
            split at h
            · cases h
            · rename_i hc
              split at h
              · rename_i e g h1 h2
                cases h
                refine snd_asg (ih.E X C _ e ok h1) (ih.G X C _ g ok h2) (by unfold swapsWithSole; exact swaps_of (by simpa using hc) _ _ _) ?_ (by rw [asg_star h2]; rfl)
                cases v with
                | Tuple vs kv pv => exact (hv _ _ _ rfl).elim
                | _ => rfl
              · cases h
        · -- o[i]
          split at h
          · cases h
          · rename_i hc
            split at h
            · rename_i e g h1 h2
              cases h
              exact snd_asg (ih.E X C v e ok h1) (ih.G X C _ g ok h2) (by unfold swapsWithSole; exact swaps_of (by simpa using hc) _ _ _) (by unfold swappedStores; rfl) (by rw [asg_star h2]; rfl)
            · cases h
        · cases h
      | If c a b p =>
        simp only [compS] at h
        split at h
        · rename_i t x y h1 h2 h3
          cases h
          exact snd_if (ih.T X C c t ok h1).1 (ihB X C a x ok h2) (ihB X C b y ok h3)
        · cases h
      | For tg it body els p =>
        simp only [compS] at h
        split at h
        · split at h
          · rename_i g i b h1 h2 h3
            cases h
            exact snd_for ok (ih.I X C tg it i ok h2).1 (ih.G X C tg g ok h1) (ihB X C body b ok h3) (ih.I X C tg it i ok h2).2
          · cases h
        · cases h
      | While c body els p =>
        simp only [compS] at h
        split at h
        · split at h
          · rename_i t b h1 h2
            cases h
            exact snd_wh ok (ih.T X C c t ok h1).1 (ihB X C body b ok h2)
          · cases h
        · cases h
      | Pass p => simp only [compS] at h; cases h; exact snd_pass
      | Break p => simp only [compS] at h; cases h; exact snd_brk
      | Continue p => simp only [compS] at h; cases h; exact snd_cont
      | _ => simp only [compS] at h; cases h
    · simp only [compB] at h
      split at h
      · cases h; exact snd_bnil
      · split at h
        · rename_i a b h1 h2
          cases h
          exact snd_bcons (ihS X C _ a ok h1) (ihB X C _ b ok h2)
        · cases h

/-! ### a def keeps its promise -/
/-- the names' data at the entry -/
def startD (N : List Str) (ds : List D) : En := ds.map some ++ List.replicate (N.length - ds.length) none
theorem start_rel {K : PySem.W.Frag} {φ : List Addr} {H : Hp} {N : List Str} {vs : List V} {ds : List D} (r : RepL K φ H vs ds) : EnvRel K φ H (startD N ds) (L2.start N vs) := by
  have hl := r.length
  refine ⟨by simp [startD, L2.start, hl], fun i d h => ?_⟩
  unfold startD at h
  unfold L2.start
  by_cases hi : i < ds.length
  · rw [List.getElem?_append_left (by simpa using hi), List.getElem?_map] at h
    rw [List.getElem?_append_left (by simpa [hl] using hi), List.getElem?_map]
    cases e : ds[i]? with
    | none => rw [e] at h; cases h
    | some d' =>
      rw [e] at h
      cases h
      obtain ⟨v, e1, q⟩ := r.get e
      exact ⟨v, by rw [e1]; rfl, q⟩
  · rw [List.getElem?_append_right (by simp; omega)] at h
    rw [List.getElem?_replicate] at h
    split at h <;> cases h

/-- what holds of the module, whatever def runs -/
structure Top (P : Program) (w : World) (K : PySem.W.Frag) (mg : Str → Option Value) (base : Heap) (k : Nat) (fs : List FSp) (C : Ctx) : Prop where
  con : ∀ x d, C.con.lookup x = some d → ∃ v u, mg x = some u ∧ RelV v u ∧ ∀ φ H, Rep K φ H v d
  fns : ∀ (i : Nat) (x : Str), C.fn[i]? = some x → ∃ sp, fs[i]? = some sp ∧ ∃ (f : Addr) (fd : FuncData) (ps : List Str), FnOk P w K mg base CX0 k f fd ps (spD K sp) ∧ mg x = some (.ref f) ∧ PySem.W.keepIn K (.ref f) = true ∧ Binds K fd ps []
  bns : ∀ x, C.bn.contains x = true → mg x = none
/-- the ends of a def's body -/
def defEnds (Q : KQ) : DEnds := { nx := fun _ S => Q .non S, rt := Q, bk := fun _ _ => False, ct := fun _ _ => False }
theorem fn_ok {P : Program} {w : World} {K : PySem.W.Frag} {mg : Str → Option Value} {base : Heap} {k n : Nat} {fs : List FSp} {x qual : Str} {st : Stmt} {f : Addr} {fd : FuncData} {ps : List Str} {C : Ctx} {ir : IB} {sp : FSp}
    (F : Fun K x qual st f fd) (S : FnScope C.N ps (defScope st)) (hsc : C.sc = defScope st) (hbl : C.blk = none) (hc : compB n C (defBody st) = some ir) (T : Top P w K mg base k fs C)
    (hlen : ∀ ds St Q, sp ds St Q → ds.length = ps.length) (hsp : ∀ ds St Q, sp ds St Q → wB fs ir (defEnds Q) (startD C.N ds) St) :
    FnOk P w K mg base CX0 (k + 1) f fd ps (spD K sp) := by
  refine F.ok S (fun vs H Q E h => ?_) (fun cdv A outer s H vs Q E hr h => ?_)
  · obtain ⟨ds, St, φ, QD, r, _, q, _⟩ := h
    rw [r.length]; exact hlen _ _ _ q
  · obtain ⟨ds, St, φ, QD, r, hs, q, hp⟩ := h
    have ok : CxOk fs (cxOf CX0 P w K mg base C.N qual (defScope st) f cdv A outer s H E).nox C :=
      { hN := rfl
        nd := S.nd
        sc := hsc.symm
        calm := rfl
        fnc := fun _ _ => rfl
        un := by
          have := hr.un
          show (A.deeper _).units + 66 < cLine
          omega
        con := T.con
        fns := fun i x hx => by
          obtain ⟨sp', h1, f', fd', ps', h2, h3, h4, h5⟩ := T.fns i x hx
          exact ⟨sp', h1, ⟨f', fd', ps', k, h2, hr, h3, h4, h5⟩⟩
        bns := T.bns
        xe := rfl }
    refine ⟨sB fs K ir, (snd_sb fs n).2 _ C _ ir ok hc, ?_⟩
    refine ⟨startD C.N ds, St, φ, defEnds QD, start_rel r, hs, hsp _ _ _ q, ?_⟩
    exact ⟨fun ρ' S' σ' H' φ' l t e s' q' => hp _ _ _ _ φ' l t s' .non q', hp, fun _ _ _ _ _ _ _ _ _ q' => q'.elim, fun _ _ _ _ _ _ _ _ _ q' => q'.elim⟩
end DW

set_option Elab.async false
set_option linter.all false
set_option maxRecDepth 100000
set_option maxHeartbeats 2000000
/-! working with data: stores that grow, values that can be compared, comprehensions -/
namespace DW
open PySem PySem.Spec PyProof.Rows L2

/-- all that stood in the store stands as before -/
def Ext (S S' : Sto) : Prop := ∀ (n : Nat) (o : Ob), S[n]? = some o → S'[n]? = some o
theorem Ext.refl (S : Sto) : Ext S S := fun _ _ h => h
theorem Ext.trans {S S1 S2 : Sto} (a : Ext S S1) (b : Ext S1 S2) : Ext S S2 := fun n o h => b n o (a n o h)
theorem Ext.app (S T : Sto) : Ext S (S ++ T) := fun n o h => by
  have hl := (List.getElem?_eq_some_iff.mp h).1
  rw [List.getElem?_append_left hl]; exact h
theorem Ext.len {S S' : Sto} (a : Ext S S') : S.length ≤ S'.length := by
  by_cases h : S.length = 0
  · omega
  · have e : S[S.length - 1]? = some (S[S.length - 1]'(by omega)) := List.getElem?_eq_getElem _
    have := (List.getElem?_eq_some_iff.mp (a _ _ e)).1
    omega
theorem Ext.set {S S' : Sto} (a : Ext S S') {n : Nat} (h : S.length ≤ n) (o : Ob) : Ext S (S'.set n o) := fun m u e => by
  have hl := (List.getElem?_eq_some_iff.mp e).1
  rw [List.getElem?_set_ne (by omega)]
  exact a m u e
/-- all but one object stand as before -/
def ExtB (k : Nat) (S S' : Sto) : Prop := S.length ≤ S'.length ∧ ∀ (n : Nat) (o : Ob), n ≠ k → S[n]? = some o → S'[n]? = some o
theorem Ext.b {S S' : Sto} (a : Ext S S') (k : Nat) : ExtB k S S' := ⟨a.len, fun n o _ h => a n o h⟩
theorem ExtB.refl (k : Nat) (S : Sto) : ExtB k S S := (Ext.refl S).b k
theorem ExtB.trans {k : Nat} {S S1 S2 : Sto} (a : ExtB k S S1) (b : ExtB k S1 S2) : ExtB k S S2 := ⟨Nat.le_trans a.1 b.1, fun n o e h => b.2 n o e (a.2 n o e h)⟩
theorem ExtB.set (k : Nat) (S : Sto) (o : Ob) : ExtB k S (S.set k o) := ⟨by simp, fun n u e h => by rw [List.getElem?_set_ne (Ne.symm e)]; exact h⟩
theorem ExtB.app (k : Nat) (S T : Sto) : ExtB k S (S ++ T) := (Ext.app S T).b k
theorem ExtB.set' {k : Nat} {S S' : Sto} (a : ExtB k S S') {n : Nat} (h : S.length ≤ n) (o : Ob) : ExtB k S (S'.set n o) := ⟨by simp; exact a.1, fun m u e hm => by
  have hl := (List.getElem?_eq_some_iff.mp hm).1
  rw [List.getElem?_set_ne (by omega)]
  exact a.2 m u e hm⟩
theorem sto_last (S : Sto) (o : Ob) : (S ++ [o])[S.length]? = some o := by simp
theorem sto_at0 (S T : Sto) : (S ++ T)[S.length]? = T[0]? := by rw [List.getElem?_append_right (Nat.le_refl _), Nat.sub_self]
theorem sto_at (S T : Sto) (i : Nat) : (S ++ T)[S.length + i]? = T[i]? := by rw [List.getElem?_append_right (by omega), Nat.add_sub_cancel_left]
theorem sto_set {S : Sto} {n : Nat} {o u : Ob} (h : S[n]? = some o) : (S.set n u)[n]? = some u := List.getElem?_set_self (List.getElem?_eq_some_iff.mp h).1

/-! ### values that can be compared -/
/-- at most k deep, tuples and lists at most L long -/
def okd (L : Nat) : Nat → Sto → D → Bool
  | 0, _, _ => false
  | k + 1, S, d => match d with
    | .non => true
    | .bl _ => true
    | .int _ => true
    | .str z => PyData.strOk z
    | .tup ds => decide (ds.length ≤ L) && ds.all (okd L k S)
    | .rol _ => false
    | .ref n => match S[n]? with
      | some (.lst ds) => decide (ds.length ≤ L) && ds.all (okd L k S)
      | none => false
    | .ty _ => false
theorem all_mono {p q : D → Bool} {ds : List D} (h : ∀ d ∈ ds, p d = true → q d = true) (a : ds.all p = true) : ds.all q = true := by
  rw [List.all_eq_true] at a ⊢
  exact fun d hd => h d hd (a d hd)
theorem okd_ext {L : Nat} {S S' : Sto} (e : Ext S S') : ∀ {k : Nat} {d : D}, okd L k S d = true → okd L k S' d = true
  | 0, _, h => by cases h
  | k + 1, d, h => by
    cases d with
    | tup ds =>
      simp only [okd, Bool.and_eq_true] at h ⊢
      exact ⟨h.1, all_mono (fun d _ q => okd_ext e q) h.2⟩
    | ref n =>
      simp only [okd] at h ⊢
      cases e1 : S[n]? with
      | none => rw [e1] at h; cases h
      | some o =>
        cases o with
        | lst ds =>
          rw [e1] at h
          rw [e n _ e1]
          simp only [Bool.and_eq_true] at h ⊢
          exact ⟨h.1, all_mono (fun d _ q => okd_ext e q) h.2⟩
    | rol _ => cases h
    | ty _ => cases h
    | str z => exact h
    | _ => rfl
theorem okd_mono {L L' : Nat} (hL : L ≤ L') {S : Sto} : ∀ {k k' : Nat} {d : D}, k ≤ k' → okd L k S d = true → okd L' k' S d = true
  | 0, _, _, _, h => by cases h
  | k + 1, 0, _, hk, h => by omega
  | k + 1, k' + 1, d, hk, h => by
    cases d with
    | tup ds =>
      simp only [okd, Bool.and_eq_true, decide_eq_true_eq] at h ⊢
      exact ⟨by omega, all_mono (fun d _ q => okd_mono hL (by omega) q) h.2⟩
    | ref n =>
      simp only [okd] at h ⊢
      cases e1 : S[n]? with
      | none => rw [e1] at h; cases h
      | some o =>
        cases o with
        | lst ds =>
          rw [e1] at h
          simp only [Bool.and_eq_true, decide_eq_true_eq] at h ⊢
          exact ⟨by omega, all_mono (fun d _ q => okd_mono hL (by omega) q) h.2⟩
    | rol _ => cases h
    | ty _ => cases h
    | str z => exact h
    | _ => rfl
/-- what Python's data stand for such a value -/
theorem mapM_some {α β : Type} {f : α → Option β} {R : β → Prop} : ∀ {xs : List α}, (∀ x ∈ xs, ∃ y, f x = some y ∧ R y) → ∃ ys, xs.mapM f = some ys ∧ (∀ y ∈ ys, R y) ∧ ys.length = xs.length
  | [], _ => ⟨[], rfl, fun _ h => (by cases h), rfl⟩
  | x :: xs, h => by
    obtain ⟨y, e, r⟩ := h x List.mem_cons_self
    obtain ⟨ys, es, rs, hl⟩ := mapM_some (xs := xs) fun z hz => h z (List.mem_cons_of_mem _ hz)
    refine ⟨y :: ys, by rw [List.mapM_cons, e, es]; rfl, fun z hz => ?_, by rw [List.length_cons, List.length_cons, hl]⟩
    rcases List.mem_cons.mp hz with rfl | hz
    · exact r
    · exact rs z hz
theorem lay_all : ∀ {ps : List PyData}, (∀ p ∈ ps, p.canLay0 = true) → PyData.canLayAll0 ps = true
  | [], _ => by simp [PyData.canLayAll0]
  | p :: ps, h => by
    simp only [PyData.canLayAll0, Bool.and_eq_true]
    exact ⟨h p List.mem_cons_self, lay_all fun q hq => h q (List.mem_cons_of_mem _ hq)⟩
theorem depth_all {k : Nat} : ∀ {ps : List PyData}, (∀ p ∈ ps, p.depth ≤ k) → PyData.depthAll ps ≤ k
  | [], _ => by simp [PyData.depthAll]
  | p :: ps, h => by
    simp only [PyData.depthAll]
    have h1 := h p List.mem_cons_self
    have h2 := depth_all (ps := ps) fun q hq => h q (List.mem_cons_of_mem _ hq)
    omega
theorem py_of {L : Nat} {S : Sto} : ∀ {k j : Nat} {d : D}, k ≤ j → okd L k S d = true → ∃ p, toPy j S d = some p ∧ p.canLay0 = true ∧ p.depth ≤ k
  | 0, _, _, _, h => by cases h
  | k + 1, 0, _, hk, h => by omega
  | k + 1, j + 1, d, hk, h => by
    have seq : ∀ ds : List D, ds.all (okd L k S) = true → ∃ ps, ds.mapM (toPy j S) = some ps ∧ PyData.canLayAll0 ps = true ∧ PyData.depthAll ps ≤ k := fun ds hd => by
      rw [List.all_eq_true] at hd
      obtain ⟨ps, e, r, _⟩ := mapM_some (f := toPy j S) (R := fun p => p.canLay0 = true ∧ p.depth ≤ k) (xs := ds) fun x hx => by
        obtain ⟨p, e, q⟩ := py_of (j := j) (by omega) (hd x hx)
        exact ⟨p, e, q⟩
      exact ⟨ps, e, lay_all fun p hp => (r p hp).1, depth_all fun p hp => (r p hp).2⟩
    cases d with
    | non => exact ⟨_, rfl, by simp [PyData.canLay0], by simp [PyData.depth]⟩
    | bl b => exact ⟨_, rfl, by simp [PyData.canLay0], by simp [PyData.depth]⟩
    | int i => exact ⟨_, rfl, by simp [PyData.canLay0], by simp [PyData.depth]⟩
    | str z => exact ⟨_, rfl, by simpa [PyData.canLay0, okd] using h, by simp [PyData.depth]⟩
    | tup ds =>
      simp only [okd, Bool.and_eq_true] at h
      obtain ⟨ps, e, h1, h2⟩ := seq ds h.2
      exact ⟨.tuple ps, by simp only [toPy, e]; rfl, by simp only [PyData.canLay0]; exact h1, by simp only [PyData.depth]; omega⟩
    | ref n =>
      simp only [okd] at h
      cases e1 : S[n]? with
      | none => rw [e1] at h; cases h
      | some o =>
        cases o with
        | lst ds =>
          rw [e1] at h
          simp only [Bool.and_eq_true] at h
          obtain ⟨ps, e, h1, h2⟩ := seq ds h.2
          exact ⟨.list ps, by simp only [toPy, e1, e]; rfl, by simp only [PyData.canLay0]; exact h1, by simp only [PyData.depth]; omega⟩
    | rol _ => cases h
    | ty _ => cases h
theorem py_shaped {L : Nat} {S : Sto} {k : Nat} {d : D} (hk : k ≤ 62) (h : okd L k S d = true) : ∃ p, toPy 66 S d = some p ∧ SeqAt.shaped p = true := by
  obtain ⟨p, e, h1, h2⟩ := py_of (j := 66) (by omega) h
  refine ⟨p, e, ?_⟩
  show (p.canLay0 && decide (p.depth ≤ 64)) = true
  rw [h1, Bool.true_and]
  exact decide_eq_true (by omega)

/-! ### a value against a written one -/
mutual
/-- whether a value equals a written one (which holds no lists) -/
def eqc : D → D → Bool
  | d, .non => match d with
    | .non => true
    | _ => false
  | d, .bl b => match d with
    | .bl c => c == b
    | .int i => i == (if b then 1 else 0)
    | _ => false
  | d, .int i => match d with
    | .bl c => (if c then 1 else 0) == i
    | .int j => j == i
    | _ => false
  | d, .str x => match d with
    | .str y => y == x
    | _ => false
  | d, .tup cs => match d with
    | .tup ds => eqcs ds cs
    | _ => false
  | _, _ => false
def eqcs : List D → List D → Bool
  | [], [] => true
  | d :: ds, c :: cs => eqc d c && eqcs ds cs
  | [], _ :: _ => false
  | _ :: _, [] => false
end
mutual
/-- a written value: no lists -/
def wr : D → Bool
  | .non => true
  | .bl _ => true
  | .int _ => true
  | .str _ => true
  | .tup cs => wrs cs
  | _ => false
def wrs : List D → Bool
  | [] => true
  | c :: cs => wr c && wrs cs
end
mutual
/-- the data of a written value -/
def pyc : D → PyData
  | .non => .none
  | .bl b => .bool b
  | .int i => .int i
  | .str x => .str x
  | .tup cs => .tuple (pycs cs)
  | _ => .none
def pycs : List D → List PyData
  | [] => []
  | c :: cs => pyc c :: pycs cs
end
theorem eqvs_of {S : Sto} {k : Nat} (ih : ∀ (c : D), wr c = true → ∀ (d : D) (p : PyData), toPy k S d = some p → PyData.eqv p (pyc c) = eqc d c ∧ PyData.eqv (pyc c) p = eqc d c) :
    ∀ (cs : List D), wrs cs = true → ∀ (ds : List D) (ps : List PyData), ds.mapM (toPy k S) = some ps → PyData.eqvAll ps (pycs cs) = eqcs ds cs ∧ PyData.eqvAll (pycs cs) ps = eqcs ds cs
  | [], _, [], ps, h => by cases h; simp [pycs, eqcs, PyData.eqvAll]
  | [], _, d :: ds, ps, h => by
    obtain ⟨y, ys, rfl, _, _⟩ := mapM_cons' h
    simp [pycs, eqcs, PyData.eqvAll]
  | c :: cs, _, [], ps, h => by cases h; simp [pycs, eqcs, PyData.eqvAll]
  | c :: cs, hc, d :: ds, ps, h => by
    simp only [wrs, Bool.and_eq_true] at hc
    obtain ⟨y, ys, rfl, h1, h2⟩ := mapM_cons' h
    have q1 := ih c hc.1 d y h1
    have q2 := eqvs_of ih cs hc.2 ds ys h2
    simp only [pycs, eqcs, PyData.eqvAll]
    rw [q1.1, q1.2, q2.1, q2.2]
    exact ⟨rfl, rfl⟩
/-- what kind of data a value stands for -/
theorem py_kind {S : Sto} {k : Nat} {d : D} {p : PyData} (h : toPy (k + 1) S d = some p) : (d = .non ∧ p = .none) ∨ (∃ b, d = .bl b ∧ p = .bool b) ∨ (∃ i, d = .int i ∧ p = .int i) ∨ (∃ x, d = .str x ∧ p = .str x) ∨
    (∃ ds ps, d = .tup ds ∧ p = .tuple ps ∧ ds.mapM (toPy k S) = some ps) ∨ (∃ ps, p = .list ps ∧ ((∃ n, d = .ref n) ∨ ∃ ds, d = .rol ds)) := by
  have lists : ∀ (ds : List D) (f : List PyData → PyData), (ds.mapM (toPy k S)).map f = some p → ∃ ps, ds.mapM (toPy k S) = some ps ∧ p = f ps := fun ds f q => by
    cases e : ds.mapM (toPy k S) with
    | none => rw [e] at q; cases q
    | some ps => rw [e] at q; cases q; exact ⟨ps, rfl, rfl⟩
  cases d with
  | non => cases h; exact .inl ⟨rfl, rfl⟩
  | bl b => cases h; exact .inr (.inl ⟨b, rfl, rfl⟩)
  | int i => cases h; exact .inr (.inr (.inl ⟨i, rfl, rfl⟩))
  | str x => cases h; exact .inr (.inr (.inr (.inl ⟨x, rfl, rfl⟩)))
  | tup ds =>
    simp only [toPy] at h
    obtain ⟨ps, e, rfl⟩ := lists ds .tuple h
    exact .inr (.inr (.inr (.inr (.inl ⟨ds, ps, rfl, rfl, e⟩))))
  | rol ds =>
    simp only [toPy] at h
    obtain ⟨ps, e, rfl⟩ := lists ds .list h
    exact .inr (.inr (.inr (.inr (.inr ⟨ps, rfl, .inr ⟨ds, rfl⟩⟩))))
  | ref n =>
    simp only [toPy] at h
    cases e1 : S[n]? with
    | none => rw [e1] at h; cases h
    | some o =>
      cases o with
      | lst ds =>
        rw [e1] at h
        obtain ⟨ps, e, rfl⟩ := lists ds .list h
        exact .inr (.inr (.inr (.inr (.inr ⟨ps, rfl, .inl ⟨n, rfl⟩⟩))))
  | ty n => cases h
theorem beq_sym {α : Type} [BEq α] [LawfulBEq α] (a b : α) : (a == b) = (b == a) := by
  rw [Bool.eq_iff_iff]
  simp only [beq_iff_eq]
  exact ⟨Eq.symm, Eq.symm⟩
theorem eqv_pyc {S : Sto} : ∀ (k : Nat) (c : D), wr c = true → ∀ (d : D) (p : PyData), toPy k S d = some p → PyData.eqv p (pyc c) = eqc d c ∧ PyData.eqv (pyc c) p = eqc d c
  | 0, c, _, d, p, h => by cases h
  | k + 1, c, hc, d, p, h => by
    have ih := eqv_pyc (S := S) k
    cases c with
    | ref n => cases hc
    | rol n => cases hc
    | ty n => cases hc
    | tup cs =>
      have hcs : wrs cs = true := by simpa [wr] using hc
      rcases py_kind h with ⟨rfl, rfl⟩ | ⟨b, rfl, rfl⟩ | ⟨i, rfl, rfl⟩ | ⟨x, rfl, rfl⟩ | ⟨ds, ps, rfl, rfl, e⟩ | ⟨ps, rfl, ⟨n, rfl⟩ | ⟨ds, rfl⟩⟩
      · simp [pyc, eqc, PyData.eqv]
      · simp [pyc, eqc, PyData.eqv]
      · simp [pyc, eqc, PyData.eqv]
      · simp [pyc, eqc, PyData.eqv]
      · simp only [pyc, eqc, PyData.eqv]
        exact eqvs_of ih cs hcs ds ps e
      · simp [pyc, eqc, PyData.eqv]
      · simp [pyc, eqc, PyData.eqv]
    | non => rcases py_kind h with ⟨rfl, rfl⟩ | ⟨b, rfl, rfl⟩ | ⟨i, rfl, rfl⟩ | ⟨x, rfl, rfl⟩ | ⟨ds, ps, rfl, rfl, e⟩ | ⟨ps, rfl, ⟨n, rfl⟩ | ⟨ds, rfl⟩⟩ <;> simp [pyc, eqc, PyData.eqv]
    | bl b => rcases py_kind h with ⟨rfl, rfl⟩ | ⟨b, rfl, rfl⟩ | ⟨i, rfl, rfl⟩ | ⟨x, rfl, rfl⟩ | ⟨ds, ps, rfl, rfl, e⟩ | ⟨ps, rfl, ⟨n, rfl⟩ | ⟨ds, rfl⟩⟩ <;> simp only [pyc, eqc, PyData.eqv] <;> first | exact ⟨trivial, trivial⟩ | exact ⟨rfl, beq_sym _ _⟩ | exact ⟨trivial, beq_sym _ _⟩ | trivial
    | int b => rcases py_kind h with ⟨rfl, rfl⟩ | ⟨b, rfl, rfl⟩ | ⟨i, rfl, rfl⟩ | ⟨x, rfl, rfl⟩ | ⟨ds, ps, rfl, rfl, e⟩ | ⟨ps, rfl, ⟨n, rfl⟩ | ⟨ds, rfl⟩⟩ <;> simp only [pyc, eqc, PyData.eqv] <;> first | exact ⟨trivial, trivial⟩ | exact ⟨rfl, beq_sym _ _⟩ | exact ⟨trivial, beq_sym _ _⟩ | trivial
    | str b => rcases py_kind h with ⟨rfl, rfl⟩ | ⟨b, rfl, rfl⟩ | ⟨i, rfl, rfl⟩ | ⟨x, rfl, rfl⟩ | ⟨ds, ps, rfl, rfl, e⟩ | ⟨ps, rfl, ⟨n, rfl⟩ | ⟨ds, rfl⟩⟩ <;> simp only [pyc, eqc, PyData.eqv] <;> first | exact ⟨trivial, trivial⟩ | exact ⟨rfl, beq_sym _ _⟩ | exact ⟨trivial, beq_sym _ _⟩ | trivial
theorem eqvs_any {S : Sto} {k : Nat} {d : D} {p : PyData} (h : toPy k S d = some p) : ∀ {cs : List D}, wrs cs = true → ((pycs cs).any fun z => PyData.eqv z p) = cs.any fun c => eqc d c
  | [], _ => rfl
  | c :: cs, hc => by
    simp only [wrs, Bool.and_eq_true] at hc
    simp only [pycs, List.any_cons]
    rw [(eqv_pyc k c hc.1 d p h).2, eqvs_any h hc.2]
theorem toPys_of {S : Sto} {k : Nat} (ih : ∀ (c : D), wr c = true → (∃ S0, okd 1000 k S0 c = true) → toPy k S c = some (pyc c)) : ∀ (cs : List D), wrs cs = true → (∀ d ∈ cs, ∃ S0, okd 1000 k S0 d = true) → cs.mapM (toPy k S) = some (pycs cs)
  | [], _, _ => rfl
  | c :: cs, hw, h => by
    simp only [wrs, Bool.and_eq_true] at hw
    rw [List.mapM_cons, ih c hw.1 (h c List.mem_cons_self), toPys_of ih cs hw.2 fun d hd => h d (List.mem_cons_of_mem _ hd)]
    rfl
theorem toPy_wr {S : Sto} : ∀ (k : Nat) (c : D), wr c = true → (∃ S0, okd 1000 k S0 c = true) → toPy k S c = some (pyc c)
  | 0, c, _, ⟨S0, h⟩ => by cases h
  | k + 1, c, hw, ⟨S0, h⟩ => by
    cases c with
    | tup cs =>
      simp only [okd, Bool.and_eq_true, List.all_eq_true] at h
      simp only [toPy, toPys_of (toPy_wr k) cs (by simpa [wr] using hw) fun d hd => ⟨S0, h.2 d hd⟩]
      rfl
    | non => rfl
    | bl b => rfl
    | int i => rfl
    | str x => rfl
    | ref n => cases hw
    | rol n => cases hw
    | ty n => cases hw
/-- a written value that is fit to be compared -/
def wk (c : D) : Bool := wr c && okd 1000 20 [] c
theorem wk_py {S : Sto} {c : D} (h : wk c = true) : toPy 66 S c = some (pyc c) ∧ SeqAt.shaped (pyc c) = true ∧ wr c = true := by
  unfold wk at h
  rw [Bool.and_eq_true] at h
  have h1 : okd 1000 66 [] c = true := okd_mono (Nat.le_refl _) (by omega) h.2
  have e1 := toPy_wr (S := S) 66 c h.1 ⟨[], h1⟩
  have e2 := toPy_wr (S := []) 66 c h.1 ⟨[], h1⟩
  obtain ⟨p, e3, s⟩ := py_shaped (by omega) h.2
  rw [e2] at e3
  cases e3
  exact ⟨e1, s, h.1⟩
/-- a value that is fit, at hand -/
def Fit (S : Sto) (d : D) : Prop := ∃ L k, k ≤ 62 ∧ okd L k S d = true
theorem Fit.py {S : Sto} {d : D} (h : Fit S d) : ∃ p, toPy 66 S d = some p ∧ SeqAt.shaped p = true := by
  obtain ⟨L, k, hk, h⟩ := h
  exact py_shaped hk h
theorem Fit.ext {S S' : Sto} {d : D} (e : Ext S S') (h : Fit S d) : Fit S' d := by
  obtain ⟨L, k, hk, h⟩ := h
  exact ⟨L, k, hk, okd_ext e h⟩
theorem dEq_c {S : Sto} {d c : D} {Q : KB} (h : Fit S d) (hc : wk c = true) (q : Q (eqc d c) S) : dEq d c S Q := by
  obtain ⟨p, e, s⟩ := h.py
  obtain ⟨e1, s1, hw⟩ := wk_py (S := S) hc
  exact ⟨p, pyc c, e, e1, s, s1, by rw [(eqv_pyc 66 c hw d p e).1]; exact q⟩
theorem dEq_c' {S : Sto} {d c : D} {Q : KB} (h : Fit S d) (hc : wk c = true) (q : Q (eqc d c) S) : dEq c d S Q := by
  obtain ⟨p, e, s⟩ := h.py
  obtain ⟨e1, s1, hw⟩ := wk_py (S := S) hc
  exact ⟨pyc c, p, e1, e, s1, s, by rw [(eqv_pyc 66 c hw d p e).2]; exact q⟩
theorem dIn_c {S : Sto} {d : D} {cs : List D} {Q : KB} (h : Fit S d) (hc : wk (.tup cs) = true) (q : Q (cs.any fun c => eqc d c) S) : dIn d (.tup cs) S Q := by
  obtain ⟨p, e, s⟩ := h.py
  obtain ⟨e1, s1, hw⟩ := wk_py (S := S) hc
  refine ⟨p, _, e, e1, s, s1, .inl ⟨pycs cs, rfl, ?_⟩⟩
  rw [eqvs_any e (by simpa [wr] using hw)]
  exact q
theorem toPy_tup (k : Nat) (S : Sto) (ds : List D) : toPy (k + 1) S (.tup ds) = (ds.mapM (toPy k S)).map .tuple := rfl
theorem toPy_ref (k : Nat) {S : Sto} {n : Nat} {ds : List D} (h : S[n]? = some (.lst ds)) : toPy (k + 1) S (.ref n) = (ds.mapM (toPy k S)).map .list := by
  simp only [toPy, h]
/-- .. in a list of written values -/
theorem dIn_l {S : Sto} {d : D} {n : Nat} {cs : List D} {Q : KB} (h : Fit S d) (hn : S[n]? = some (.lst cs)) (hc : wk (.tup cs) = true) (q : Q (cs.any fun c => eqc d c) S) : dIn d (.ref n) S Q := by
  obtain ⟨p, e, s⟩ := h.py
  obtain ⟨e1, s1, hw⟩ := wk_py (S := S) hc
  have hw' : wrs cs = true := by simpa [wr] using hw
  have e2 : toPy 66 S (.ref n) = some (.list (pycs cs)) := by
    have e1' := (toPy_tup 65 S cs).symm.trans e1
    rw [toPy_ref 65 hn]
    cases q1 : cs.mapM (toPy 65 S) with
    | none => rw [q1] at e1'; cases e1'
    | some ps =>
      rw [q1] at e1'
      have e3 : PyData.tuple ps = PyData.tuple (pycs cs) := Option.some.inj e1'
      injection e3 with e3
      rw [e3]
      rfl
  have s2 : SeqAt.shaped (.list (pycs cs)) = true := by
    simpa [SeqAt.shaped, PyData.canLay0, PyData.depth, pyc] using s1
  refine ⟨p, _, e, e2, s, s2, .inr ⟨pycs cs, rfl, ?_⟩⟩
  rw [eqvs_any e hw']
  exact q

theorem dEq_iff {S : Sto} {d c : D} {Q : KB} (h : Fit S d) (hc : wk c = true) : dEq d c S Q ↔ Q (eqc d c) S := by
  refine ⟨fun ⟨p, q, e1, e2, _, _, k⟩ => ?_, dEq_c h hc⟩
  obtain ⟨e3, _, hw⟩ := wk_py (S := S) hc
  rw [e3] at e2
  cases e2
  rw [← (eqv_pyc 66 c hw d p e1).1]
  exact k
theorem dEq_iff' {S : Sto} {d c : D} {Q : KB} (h : Fit S d) (hc : wk c = true) : dEq c d S Q ↔ Q (eqc d c) S := by
  refine ⟨fun ⟨p, q, e1, e2, _, _, k⟩ => ?_, dEq_c' h hc⟩
  obtain ⟨e3, _, hw⟩ := wk_py (S := S) hc
  rw [e3] at e1
  cases e1
  rw [← (eqv_pyc 66 c hw d q e2).2]
  exact k
theorem wk_pys {cs : List D} (h : wk (.tup cs) = true) : wrs cs = true := by
  unfold wk at h
  rw [Bool.and_eq_true] at h
  simpa [wr] using h.1
theorem dIn_iff {S : Sto} {d : D} {cs : List D} {Q : KB} (h : Fit S d) (hc : wk (.tup cs) = true) : dIn d (.tup cs) S Q ↔ Q (cs.any fun c => eqc d c) S := by
  refine ⟨fun ⟨p, q, e1, e2, _, _, k⟩ => ?_, dIn_c h hc⟩
  obtain ⟨e3, _, hw⟩ := wk_py (S := S) hc
  rw [e3] at e2
  cases e2
  rcases k with ⟨qs, e, k⟩ | ⟨qs, e, k⟩
  · injection e with e
    subst e
    rw [eqvs_any e1 (wk_pys hc)] at k
    exact k
  · cases e
/-- a written value is fit -/
theorem wk_fit {S : Sto} {c : D} (h : wk c = true) : Fit S c := by
  unfold wk at h
  rw [Bool.and_eq_true] at h
  exact ⟨1000, 20, by omega, okd_ext (fun n o e => by cases e) h.2⟩
/-- the parts of a fit tuple are fit -/
theorem Fit.parts {S : Sto} {ds : List D} (h : Fit S (.tup ds)) : ∀ d ∈ ds, Fit S d := fun d hd => by
  obtain ⟨L, k, hk, h⟩ := h
  cases k with
  | zero => cases h
  | succ k =>
    simp only [okd, Bool.and_eq_true, List.all_eq_true] at h
    exact ⟨L, k, by omega, h.2 d hd⟩
theorem Fit.sub {S : Sto} {n : Nat} {ds : List D} (h : Fit S (.ref n)) (e : S[n]? = some (.lst ds)) : ∀ d ∈ ds, Fit S d := fun d hd => by
  obtain ⟨L, k, hk, h⟩ := h
  cases k with
  | zero => cases h
  | succ k =>
    simp only [okd, e, Bool.and_eq_true, List.all_eq_true] at h
    exact ⟨L, k, by omega, h.2 d hd⟩

/-! ### single steps -/
section
variable {S : Sto} {Q : KQ} {B : KB}
theorem tru_non : dTru .non S B = B false S := rfl
theorem tru_bl {b : Bool} : dTru (.bl b) S B = B b S := rfl
theorem tru_int {i : Int} : dTru (.int i) S B = B (i != 0) S := rfl
theorem tru_tup {xs : List D} : dTru (.tup xs) S B = B (!xs.isEmpty) S := rfl
theorem op_addi {i j : Int} : dOp .Add (.int i) (.int j) S Q = Q (.int (i + j)) S := rfl
theorem op_subi {i j : Int} : dOp .Sub (.int i) (.int j) S Q = Q (.int (i - j)) S := rfl
theorem op_muli {i j : Int} : dOp .Mult (.int i) (.int j) S Q = (CMul i j ∧ Q (.int (i * j)) S) := rfl
theorem op_divi {i j : Int} : dOp .FloorDiv (.int i) (.int j) S Q = (CDiv i j ∧ Q (.int (i / j)) S) := rfl
theorem op_modi {i j : Int} : dOp .Mod (.int i) (.int j) S Q = (0 < j ∧ Q (.int (i % j)) S) := rfl
theorem op_powi {i j : Int} : dOp .Pow (.int i) (.int j) S Q = (CPow i j ∧ Q (.int (i ^ j.toNat)) S) := rfl
theorem op_addt {xs ys : List D} : dOp .Add (.tup xs) (.tup ys) S Q = (xs.length + ys.length ≤ LIM ∧ Q (.tup (xs ++ ys)) S) := rfl
theorem op_addl {m n : Nat} {xs ys : List D} (h1 : S[m]? = some (.lst xs)) (h2 : S[n]? = some (.lst ys)) : dOp .Add (.ref m) (.ref n) S Q = (xs.length + ys.length ≤ LIM ∧ Q (.ref S.length) (S ++ [.lst (xs ++ ys)])) := by
  simp only [dOp, h1, h2]
theorem op_rept {xs : List D} {k : Int} : dOp .Mult (.tup xs) (.int k) S Q = ((xs ≠ [] ∧ 2 ≤ k ∧ k ≤ 1000 ∧ xs.length ≤ 1000) ∧ Q (.tup (List.replicate k.toNat xs).flatten) S) := rfl
theorem op_repl {m : Nat} {xs : List D} {k : Int} (h1 : S[m]? = some (.lst xs)) : dOp .Mult (.ref m) (.int k) S Q = ((-(2 ^ 63) ≤ k ∧ k < 2 ^ 63 ∧ xs.length * k.toNat ≤ LIM) ∧ Q (.ref S.length) (S ++ [.lst (List.replicate k.toNat xs).flatten])) := by
  simp only [dOp, h1]
theorem cmp_lt {i j : Int} : dCmp .Lt (.int i) (.int j) S B = B (decide (i < j)) S := rfl
theorem cmp_le {i j : Int} : dCmp .LtE (.int i) (.int j) S B = B (decide (i ≤ j)) S := rfl
theorem cmp_gt {i j : Int} : dCmp .Gt (.int i) (.int j) S B = B (decide (j < i)) S := rfl
theorem cmp_ge {i j : Int} : dCmp .GtE (.int i) (.int j) S B = B (decide (j ≤ i)) S := rfl
theorem cmp_eq {x y : D} : dCmp .Eq x y S B = dEq x y S B := rfl
theorem cmp_ne {x y : D} : dCmp .NotEq x y S B = dEq x y S fun b S' => B (!b) S' := rfl
theorem cmp_in {x y : D} : dCmp .In x y S B = dIn x y S B := rfl
theorem cmp_nin {x y : D} : dCmp .NotIn x y S B = dIn x y S fun b S' => B (!b) S' := rfl
theorem len_tup {xs : List D} : dLen (.tup xs) S Q = Q (.int xs.length) S := rfl
theorem len_rol {xs : List D} : dLen (.rol xs) S Q = Q (.int xs.length) S := rfl
theorem len_ref {n : Nat} {xs : List D} (h : S[n]? = some (.lst xs)) : dLen (.ref n) S Q = Q (.int xs.length) S := by
  simp only [dLen, items, h]
theorem idx_tup {xs : List D} {k : Int} : dIdx (.tup xs) (.int k) S Q = ∃ v, atI xs k = some v ∧ Q v S := rfl
theorem idx_rol {xs : List D} {k : Int} : dIdx (.rol xs) (.int k) S Q = ∃ v, atI xs k = some v ∧ Q v S := rfl
theorem idx_ref {n : Nat} {xs : List D} {k : Int} (h : S[n]? = some (.lst xs)) : dIdx (.ref n) (.int k) S Q = ∃ v, atI xs k = some v ∧ Q v S := by
  simp only [dIdx, h]
theorem slc_tup {xs : List D} {lo hi : Option Int} : dSlc (.tup xs) lo hi S Q = Q (.tup (cutD xs lo hi)) S := rfl
theorem slc_ref {n : Nat} {xs : List D} {lo hi : Option Int} (h : S[n]? = some (.lst xs)) : dSlc (.ref n) lo hi S Q = Q (.ref S.length) (S ++ [.lst (cutD xs lo hi)]) := by
  simp only [dSlc, h]
theorem iter_tup {xs : List D} {k : KI} : dIter (.tup xs) S k = k xs (fun _ => True) S := rfl
theorem iter_rol {xs : List D} {k : KI} : dIter (.rol xs) S k = k xs (fun _ => True) S := rfl
theorem iter_ref {n : Nat} {xs : List D} {k : KI} (h : S[n]? = some (.lst xs)) : dIter (.ref n) S k = k xs (fun S' => S'[n]? = some (.lst xs)) S := by
  simp only [dIter, h]
theorem bools_map (bs : List Bool) : bools (bs.map D.bl) = some bs := by
  induction bs with
  | nil => rfl
  | cons b r ih => simp only [List.map_cons, bools, ih, Option.map_some]
theorem bools_ref {n : Nat} {bs : List Bool} {k : List Bool → Prop} (h : S[n]? = some (.lst (bs.map D.bl))) : dBools (.ref n) S k = k bs := by
  simp only [dBools, h, bools_map]
theorem eqc_int (i j : Int) : eqc (.int i) (.int j) = decide (i = j) := by
  rw [Bool.eq_iff_iff]; simp [eqc]
theorem app_ref {n : Nat} {xs : List D} {a : D} (h : S[n]? = some (.lst xs)) : dApp (.ref n) a S Q = (xs.length < LIM ∧ Q .non (S.set n (.lst (xs ++ [a])))) := by
  simp only [dApp, h]
theorem set_ref {n : Nat} {xs : List D} {a : D} {k : Int} {R : Sto → Prop} (h : S[n]? = some (.lst xs)) : dSet (.ref n) (.int k) a S R = ∃ j, ixN xs.length k = some j ∧ R (S.set n (.lst (xs.set j a))) := by
  simp only [dSet, h]
end

/-! ### comprehensions -/
theorem cLoop_gen {n : Nat} {chk : Sto → Prop} {turn : D → Sto → (D → Sto → Prop) → (Sto → Prop) → Prop} {k : Sto → Prop} (J : List D → List D → Sto → Prop)
    (hchk : ∀ r acc S, J r acc S → chk S)
    (hturn : ∀ d r acc S ky kn, J (d :: r) acc S → (∀ y S', S'[n]? = some (.lst acc) → acc.length < LIM → J r (acc ++ [y]) (S'.set n (.lst (acc ++ [y]))) → ky y S') → (∀ S', J r acc S' → kn S') → turn d S ky kn)
    (hk : ∀ acc S, J [] acc S → k S) : ∀ (r acc : List D) (S : Sto), J r acc S → cLoop n chk turn k r S
  | [], acc, S, h => ⟨hchk _ _ _ h, hk _ _ h⟩
  | d :: r, acc, S, h => by
    refine ⟨hchk _ _ _ h, hturn d r acc S _ _ h (fun y S' e1 e2 j => ⟨acc, e1, e2, ?_⟩) fun S' j => ?_⟩
    · exact cLoop_gen J hchk hturn hk r _ _ j
    · exact cLoop_gen J hchk hturn hk r _ _ j
/-- the elements are a function of the items; the store grows only -/
theorem cLoop_ext {S : Sto} {chk : Sto → Prop} {turn : D → Sto → (D → Sto → Prop) → (Sto → Prop) → Prop} {k : Sto → Prop} {items : List D} (f : D → Option D) (hl : items.length < LIM) (hchk : ∀ S', Ext S S' → chk S')
    (hturn : ∀ d ∈ items, ∀ S1 ky kn, Ext S S1 → (∀ S2, Ext S1 S2 → match f d with | some y => ky y S2 | none => kn S2) → turn d S1 ky kn)
    (hk : ∀ S', Ext S S' → S'[S.length]? = some (.lst (items.filterMap f)) → k S') : cLoop S.length chk turn k items (S ++ [.lst []]) := by
  refine cLoop_gen (J := fun r acc S' => ∃ done, items = done ++ r ∧ acc = done.filterMap f ∧ Ext S S' ∧ S'[S.length]? = some (.lst acc)) ?_ ?_ ?_ items [] _ ⟨[], rfl, rfl, Ext.app S _, sto_last S _⟩
  · rintro r acc S' ⟨done, _, _, e, _⟩
    exact hchk S' e
  · rintro d r acc S1 ky kn ⟨done, e1, e2, e3, e4⟩ h1 h2
    refine hturn d (by rw [e1]; simp) S1 ky kn e3 fun S2 e5 => ?_
    have hlen : acc.length < LIM := by
      have q1 : acc.length ≤ done.length := by rw [e2]; exact List.length_filterMap_le f done
      have q2 : done.length ≤ items.length := by rw [e1]; simp
      omega
    cases q : f d with
    | some y =>
      simp only [q]
      refine h1 y S2 (e5 _ _ e4) hlen ⟨done ++ [d], by rw [e1]; simp, by rw [List.filterMap_append, e2]; simp [q], (e3.trans e5).set (Nat.le_refl _) _, sto_set (e5 _ _ e4)⟩
    | none =>
      simp only [q]
      exact h2 S2 ⟨done ++ [d], by rw [e1]; simp, by rw [List.filterMap_append, e2]; simp [q], e3.trans e5, e5 _ _ e4⟩
  · rintro acc S' ⟨done, e1, e2, e3, e4⟩
    rw [List.append_nil] at e1
    subst e1
    subst e2
    exact hk S' e3 e4
end DW

set_option Elab.async false
set_option linter.all false
set_option maxRecDepth 100000
set_option maxHeartbeats 4000000
namespace K01
open PySem PySem.Spec PyProof.Rows L2 DW
def top (i : Nat) : Stmt := PySem.Challenge.pw_noticeways_k01_notices_and_houses_recogn.main.body.getD i (.Pass ⟨0, 0, 0, 0⟩)
def c_JOINTS : D := D.tup [(D.str "and"), (D.str "or"), (D.str "unless"), (D.str "onlyif")]
def c_MOST_SIGNS : D := D.int 16
def c_MOST_CLAUSES : D := D.int 4
def c_MOST_PEOPLE : D := D.int 1000000000000000000000000000000
def c_MOST_DEPTH : D := D.int 10
def c_MOST_TOLD : D := D.int 3
def c_SORTS : D := D.int 4
def c_MARK_CLAUSES : D := D.tup [(D.str "all"), (D.str "some"), (D.str "no"), (D.str "allnot")]
def c_COUNT_CLAUSES : D := D.tup [(D.str "has")]
def c_MARKS : D := D.tup [(D.tup [(D.str "a"), (D.str "b")]), (D.tup [(D.str "b"), (D.str "a")])]
def c_COUNTED : D := D.tup [(D.str "a"), (D.str "b"), (D.str "both")]
def c_OTHER_SIGNS : D := D.tup [(D.str "not"), (D.str "("), (D.str ")")]
def c_PAIR_WORDS : D := D.tup [(D.str "and"), (D.str "or"), (D.str "if"), (D.str "other")]
abbrev CON : List (Str × D) := [("JOINTS", c_JOINTS), ("MOST_SIGNS", c_MOST_SIGNS), ("MOST_CLAUSES", c_MOST_CLAUSES), ("MOST_PEOPLE", c_MOST_PEOPLE), ("MOST_DEPTH", c_MOST_DEPTH), ("MOST_TOLD", c_MOST_TOLD), ("SORTS", c_SORTS), ("MARK_CLAUSES", c_MARK_CLAUSES), ("COUNT_CLAUSES", c_COUNT_CLAUSES), ("MARKS", c_MARKS), ("COUNTED", c_COUNTED), ("OTHER_SIGNS", c_OTHER_SIGNS), ("PAIR_WORDS", c_PAIR_WORDS)]
abbrev FN : List Str := ["is_row", "is_notice", "is_house", "is_formula", "is_sign", "is_number", "_is_triple", "_is_nested", "_law_source", "_law_draw", "_law_choice", "_law_from", "_law_clause", "_law_notice", "_law_formula", "_law_is_triple", "_law_is_row", "_law_joints", "_law_is_notice", "_law_is_house", "_law_is_formula", "_law_bent", "_law_told", "law"]
abbrev BN : List Str := ["len", "isinstance", "all", "abs", "int", "min", "list", "tuple", "bool", "str", "range"]
/-! is_row: 0 signs, 1 depth, 2 part_due, 3 sign -/
abbrev s_is_row : Stmt := top 2
abbrev C_is_row : DW.Ctx := { N := ["signs", "depth", "part_due", "sign"], sc := defScope s_is_row, blk := none, con := CON, fn := FN, bn := BN }
def ir_is_row_b0 : IB := .cons (.ifs (.and (.cmp .Eq (.var 3) (.cst (D.str "("))) (.val (.var 2))) (.cons (.asg (.name 1) (.bin .Add (.var 1) (.cst (D.int 1)))) .nil) (.cons (.ifs (.and (.cmp .Eq (.var 3) (.cst (D.str ")"))) (.and (.not (.val (.var 2))) (.cmp .Gt (.var 1) (.cst (D.int 0))))) (.cons (.asg (.name 1) (.bin .Sub (.var 1) (.cst (D.int 1)))) .nil) (.cons (.ifs (.and (.cmp .In (.var 3) (.cst c_JOINTS)) (.not (.val (.var 2)))) (.cons (.asg (.name 2) (.cst (D.bl true))) .nil) (.cons (.ifs (.and (.val (.blt .isinst (.cons (.var 3) (.cons (.cst (D.ty "tuple")) .nil)))) (.val (.var 2))) (.cons (.asg (.name 2) (.cst (D.bl false))) .nil) (.cons (.ifs (.or (.cmp .NotEq (.var 3) (.cst (D.str "not"))) (.not (.val (.var 2)))) (.cons (.ret (.cst (D.bl false))) .nil) .nil) .nil)) .nil)) .nil)) .nil)) .nil
def ir_is_row : IB := .cons (.asg (.name 1) (.cst (D.int 0))) (.cons (.asg (.name 2) (.cst (D.bl true))) (.cons (.fr (.name 3) (.val (.var 0)) ir_is_row_b0) (.cons (.ret (.and (.cmp .Eq (.var 1) (.cst (D.int 0))) (.not (.var 2)))) .nil)))
theorem sc_is_row : FnScope C_is_row.N ["signs"] (defScope s_is_row) := ⟨rfl, rfl, rfl, by decide +kernel, rfl, by decide +kernel, by decide +kernel⟩
theorem co_is_row : compB 60 C_is_row (defBody s_is_row) = some ir_is_row := by rfl
/-! is_notice: 0 value, 1 clauses, 2 sign -/
abbrev s_is_notice : Stmt := top 16
abbrev C_is_notice : DW.Ctx := { N := ["value", "clauses", "sign"], sc := defScope s_is_notice, blk := none, con := CON, fn := FN, bn := BN }
def ir_is_notice_l0 : IE := .lcp [2] (.name 2) (.val (.var 0)) (.one (.val (.blt .isinst (.cons (.var 2) (.cons (.cst (D.ty "tuple")) .nil))))) (.var 2)
def ir_is_notice_l1 : IE := .lcp [2] (.name 2) (.val (.var 0)) .none (.fn 4 (.cons (.var 2) .nil))
def ir_is_notice : IB := .cons (.ifs (.or (.not (.val (.blt .isinst (.cons (.var 0) (.cons (.cst (D.ty "tuple")) .nil))))) (.not (.chn .LtE .LtE (.cst (D.int 1)) (.blt .len (.cons (.var 0) .nil)) (.cst c_MOST_SIGNS)))) (.cons (.ret (.cst (D.bl false))) .nil) .nil) (.cons (.ifs (.not (.val (.blt .all (.cons ir_is_notice_l1 .nil)))) (.cons (.ret (.cst (D.bl false))) .nil) .nil) (.cons (.asg (.name 1) ir_is_notice_l0) (.cons (.ret (.and (.cmp .LtE (.blt .len (.cons (.var 1) .nil)) (.cst c_MOST_CLAUSES)) (.fn 0 (.cons (.var 0) .nil)))) .nil)))
theorem sc_is_notice : FnScope C_is_notice.N ["value"] (defScope s_is_notice) := ⟨rfl, rfl, rfl, by decide +kernel, rfl, by decide +kernel, by decide +kernel⟩
theorem co_is_notice : compB 60 C_is_notice (defBody s_is_notice) = some ir_is_notice := by rfl
/-! is_house: 0 value, 1 many -/
abbrev s_is_house : Stmt := top 17
abbrev C_is_house : DW.Ctx := { N := ["value", "many"], sc := defScope s_is_house, blk := none, con := CON, fn := FN, bn := BN }
def ir_is_house_l0 : IE := .lcp [1] (.name 1) (.val (.var 0)) .none (.fn 5 (.cons (.var 1) (.cons (.cst (D.int 0)) (.cons (.cst c_MOST_PEOPLE) .nil))))
def ir_is_house : IB := .cons (.ifs (.or (.not (.val (.blt .isinst (.cons (.var 0) (.cons (.cst (D.ty "tuple")) .nil))))) (.cmp .NotEq (.blt .len (.cons (.var 0) .nil)) (.cst c_SORTS))) (.cons (.ret (.cst (D.bl false))) .nil) .nil) (.cons (.ret (.blt .all (.cons ir_is_house_l0 .nil))) .nil)
theorem sc_is_house : FnScope C_is_house.N ["value"] (defScope s_is_house) := ⟨rfl, rfl, rfl, by decide +kernel, rfl, by decide +kernel, by decide +kernel⟩
theorem co_is_house : compB 60 C_is_house (defBody s_is_house) = some ir_is_house := by rfl
/-! is_formula: 0 value -/
abbrev s_is_formula : Stmt := top 18
abbrev C_is_formula : DW.Ctx := { N := ["value"], sc := defScope s_is_formula, blk := none, con := CON, fn := FN, bn := BN }
def ir_is_formula : IB := .cons (.ret (.fn 7 (.cons (.var 0) (.cons (.cst c_MOST_DEPTH) .nil)))) .nil
theorem sc_is_formula : FnScope C_is_formula.N ["value"] (defScope s_is_formula) := ⟨rfl, rfl, rfl, by decide +kernel, rfl, by decide +kernel, by decide +kernel⟩
theorem co_is_formula : compB 60 C_is_formula (defBody s_is_formula) = some ir_is_formula := by rfl
/-! is_sign: 0 value -/
abbrev s_is_sign : Stmt := top 19
abbrev C_is_sign : DW.Ctx := { N := ["value"], sc := defScope s_is_sign, blk := none, con := CON, fn := FN, bn := BN }
def ir_is_sign : IB := .cons (.ifs (.val (.blt .isinst (.cons (.var 0) (.cons (.cst (D.ty "str")) .nil)))) (.cons (.ret (.or (.cmp .In (.var 0) (.cst c_JOINTS)) (.cmp .In (.var 0) (.cst c_OTHER_SIGNS)))) .nil) .nil) (.cons (.ret (.fn 6 (.cons (.var 0) (.cons (.cst c_MARK_CLAUSES) (.cons (.cst c_COUNT_CLAUSES) .nil))))) .nil)
theorem sc_is_sign : FnScope C_is_sign.N ["value"] (defScope s_is_sign) := ⟨rfl, rfl, rfl, by decide +kernel, rfl, by decide +kernel, by decide +kernel⟩
theorem co_is_sign : compB 60 C_is_sign (defBody s_is_sign) = some ir_is_sign := by rfl
/-! is_number: 0 value, 1 least, 2 most -/
abbrev s_is_number : Stmt := top 20
abbrev C_is_number : DW.Ctx := { N := ["value", "least", "most"], sc := defScope s_is_number, blk := none, con := CON, fn := FN, bn := BN }
def ir_is_number : IB := .cons (.ifs (.or (.not (.val (.blt .isinst (.cons (.var 0) (.cons (.cst (D.ty "int")) .nil))))) (.val (.blt .isinst (.cons (.var 0) (.cons (.cst (D.ty "bool")) .nil))))) (.cons (.ret (.cst (D.bl false))) .nil) .nil) (.cons (.ret (.chn .LtE .LtE (.var 1) (.var 0) (.var 2))) .nil)
theorem sc_is_number : FnScope C_is_number.N ["value", "least", "most"] (defScope s_is_number) := ⟨rfl, rfl, rfl, by decide +kernel, rfl, by decide +kernel, by decide +kernel⟩
theorem co_is_number : compB 60 C_is_number (defBody s_is_number) = some ir_is_number := by rfl
/-! _is_triple: 0 value, 1 mark_words, 2 count_words, 3 word, 4 first, 5 second -/
abbrev s__is_triple : Stmt := top 21
abbrev C__is_triple : DW.Ctx := { N := ["value", "mark_words", "count_words", "word", "first", "second"], sc := defScope s__is_triple, blk := none, con := CON, fn := FN, bn := BN }
def ir__is_triple : IB := .cons (.ifs (.or (.not (.val (.blt .isinst (.cons (.var 0) (.cons (.cst (D.ty "tuple")) .nil))))) (.cmp .NotEq (.blt .len (.cons (.var 0) .nil)) (.cst (D.int 3)))) (.cons (.ret (.cst (D.bl false))) .nil) .nil) (.cons (.asg (.tup (.cons (.name 3) (.cons (.name 4) (.cons (.name 5) .nil)))) (.var 0)) (.cons (.ifs (.cmp .In (.var 3) (.var 1)) (.cons (.ret (.cmp .In (.tup (.cons (.var 4) (.cons (.var 5) .nil))) (.cst c_MARKS))) .nil) .nil) (.cons (.ret (.and (.cmp .In (.var 3) (.var 2)) (.and (.fn 5 (.cons (.var 4) (.cons (.cst (D.int 1)) (.cons (.cst c_MOST_TOLD) .nil)))) (.cmp .In (.var 5) (.cst c_COUNTED))))) .nil)))
theorem sc__is_triple : FnScope C__is_triple.N ["value", "mark_words", "count_words"] (defScope s__is_triple) := ⟨rfl, rfl, rfl, by decide +kernel, rfl, by decide +kernel, by decide +kernel⟩
theorem co__is_triple : compB 60 C__is_triple (defBody s__is_triple) = some ir__is_triple := by rfl
/-! _is_nested: 0 value, 1 depth -/
abbrev s__is_nested : Stmt := top 22
abbrev C__is_nested : DW.Ctx := { N := ["value", "depth"], sc := defScope s__is_nested, blk := none, con := CON, fn := FN, bn := BN }
def ir__is_nested : IB := .cons (.ifs (.or (.cmp .Eq (.var 1) (.cst (D.int 0))) (.or (.not (.val (.blt .isinst (.cons (.var 0) (.cons (.cst (D.ty "tuple")) .nil))))) (.cmp .Eq (.blt .len (.cons (.var 0) .nil)) (.cst (D.int 0))))) (.cons (.ret (.cst (D.bl false))) .nil) .nil) (.cons (.ifs (.cmp .Eq (.idx (.var 0) (.cst (D.int 0))) (.cst (D.str "not"))) (.cons (.ret (.and (.cmp .Eq (.blt .len (.cons (.var 0) .nil)) (.cst (D.int 2))) (.fn 7 (.cons (.idx (.var 0) (.cst (D.int 1))) (.cons (.bin .Sub (.var 1) (.cst (D.int 1))) .nil))))) .nil) .nil) (.cons (.ifs (.cmp .In (.idx (.var 0) (.cst (D.int 0))) (.cst c_PAIR_WORDS)) (.cons (.ret (.and (.cmp .Eq (.blt .len (.cons (.var 0) .nil)) (.cst (D.int 3))) (.and (.fn 7 (.cons (.idx (.var 0) (.cst (D.int 1))) (.cons (.bin .Sub (.var 1) (.cst (D.int 1))) .nil))) (.fn 7 (.cons (.idx (.var 0) (.cst (D.int 2))) (.cons (.bin .Sub (.var 1) (.cst (D.int 1))) .nil)))))) .nil) .nil) (.cons (.ret (.fn 6 (.cons (.var 0) (.cons (.tup (.cons (.cst (D.str "all")) (.cons (.cst (D.str "some")) (.cons (.cst (D.str "no")) .nil)))) (.cons (.tup (.cons (.cst (D.str "least")) (.cons (.cst (D.str "just")) .nil))) .nil))))) .nil)))
theorem sc__is_nested : FnScope C__is_nested.N ["value", "depth"] (defScope s__is_nested) := ⟨rfl, rfl, rfl, by decide +kernel, rfl, by decide +kernel, by decide +kernel⟩
theorem co__is_nested : compB 60 C__is_nested (defBody s__is_nested) = some ir__is_nested := by rfl
/-! _law_source: 0 _law_script, 1 _law_k, 2 _law_cell -/
abbrev s__law_source : Stmt := top 24
abbrev C__law_source : DW.Ctx := { N := ["_law_script", "_law_k", "_law_cell"], sc := defScope s__law_source, blk := none, con := CON, fn := FN, bn := BN }
def ir__law_source : IB := .cons (.asg (.name 2) (.ite (.cmp .Lt (.var 1) (.blt .len (.cons (.var 0) .nil))) (.blt .abs (.cons (.blt .int (.cons (.idx (.var 0) (.var 1)) .nil)) .nil)) (.bin .Add (.bin .Mult (.cst (D.int 101)) (.var 1)) (.cst (D.int 47))))) (.cons (.ret (.lst (.cons (.ite (.cmp .Gt (.var 2) (.bin .Pow (.cst (D.int 10)) (.cst (D.int 17)))) (.var 2) (.cst (D.int 0))) (.cons (.bin .Mod (.blt .int (.cons (.bin .Add (.bin .Add (.bin .Mult (.var 2) (.cst (D.int 16807))) (.bin .Mult (.cst (D.int 10009)) (.var 1))) (.cst (D.int 71))) .nil)) (.cst (D.int 2147483237))) .nil)))) .nil)
theorem sc__law_source : FnScope C__law_source.N ["_law_script", "_law_k"] (defScope s__law_source) := ⟨rfl, rfl, rfl, by decide +kernel, rfl, by decide +kernel, by decide +kernel⟩
theorem co__law_source : compB 60 C__law_source (defBody s__law_source) = some ir__law_source := by rfl
/-! _law_draw: 0 _law_source_here, 1 _law_many, 2 _law_rest, 3 _law_wide -/
abbrev s__law_draw : Stmt := top 25
abbrev C__law_draw : DW.Ctx := { N := ["_law_source_here", "_law_many", "_law_rest", "_law_wide"], sc := defScope s__law_draw, blk := none, con := CON, fn := FN, bn := BN }
def ir__law_draw : IB := .cons (.ifs (.cmp .Gt (.idx (.var 0) (.cst (D.int 0))) (.cst (D.int 0))) (.cons (.asg (.name 2) (.bin .Mod (.blt .int (.cons (.idx (.var 0) (.cst (D.int 0))) .nil)) (.var 1))) (.cons (.asg (.sub (.var 0) (.cst (D.int 0))) (.bin .FloorDiv (.idx (.var 0) (.cst (D.int 0))) (.var 1))) (.cons (.ret (.var 2)) .nil))) .nil) (.cons (.asg (.sub (.var 0) (.cst (D.int 1))) (.bin .Mod (.blt .int (.cons (.bin .Add (.bin .Mult (.idx (.var 0) (.cst (D.int 1))) (.cst (D.int 48271))) (.cst (D.int 83))) .nil)) (.cst (D.int 2147483237)))) (.cons (.asg (.name 3) (.bin .Mod (.blt .int (.cons (.bin .Mult (.idx (.var 0) (.cst (D.int 1))) (.bin .Add (.bin .FloorDiv (.idx (.var 0) (.cst (D.int 1))) (.cst (D.int 41))) (.cst (D.int 26)))) .nil)) (.cst (D.int 2147483179)))) (.cons (.ret (.bin .Mod (.blt .int (.cons (.bin .FloorDiv (.var 3) (.cst (D.int 32))) .nil)) (.var 1))) .nil)))
theorem sc__law_draw : FnScope C__law_draw.N ["_law_source_here", "_law_many"] (defScope s__law_draw) := ⟨rfl, rfl, rfl, by decide +kernel, rfl, by decide +kernel, by decide +kernel⟩
theorem co__law_draw : compB 60 C__law_draw (defBody s__law_draw) = some ir__law_draw := by rfl
/-! _law_choice: 0 _law_source_here, 1 _law_some -/
abbrev s__law_choice : Stmt := top 26
abbrev C__law_choice : DW.Ctx := { N := ["_law_source_here", "_law_some"], sc := defScope s__law_choice, blk := none, con := CON, fn := FN, bn := BN }
def ir__law_choice : IB := .cons (.ret (.idx (.var 1) (.fn 9 (.cons (.var 0) (.cons (.blt .len (.cons (.var 1) .nil)) .nil))))) .nil
theorem sc__law_choice : FnScope C__law_choice.N ["_law_source_here", "_law_some"] (defScope s__law_choice) := ⟨rfl, rfl, rfl, by decide +kernel, rfl, by decide +kernel, by decide +kernel⟩
theorem co__law_choice : compB 60 C__law_choice (defBody s__law_choice) = some ir__law_choice := by rfl
/-! _law_from: 0 _law_value, 1 _law_low, 2 _law_high -/
abbrev s__law_from : Stmt := top 27
abbrev C__law_from : DW.Ctx := { N := ["_law_value", "_law_low", "_law_high"], sc := defScope s__law_from, blk := none, con := CON, fn := FN, bn := BN }
def ir__law_from : IB := .cons (.ret (.and (.blt .isinst (.cons (.var 0) (.cons (.cst (D.ty "int")) .nil))) (.and (.not (.blt .isinst (.cons (.var 0) (.cons (.cst (D.ty "bool")) .nil)))) (.chn .LtE .LtE (.var 1) (.var 0) (.var 2))))) .nil
theorem sc__law_from : FnScope C__law_from.N ["_law_value", "_law_low", "_law_high"] (defScope s__law_from) := ⟨rfl, rfl, rfl, by decide +kernel, rfl, by decide +kernel, by decide +kernel⟩
theorem co__law_from : compB 60 C__law_from (defBody s__law_from) = some ir__law_from := by rfl
/-! _law_clause: 0 _law_source_here, 1 _law_pair -/
abbrev s__law_clause : Stmt := top 28
abbrev C__law_clause : DW.Ctx := { N := ["_law_source_here", "_law_pair"], sc := defScope s__law_clause, blk := none, con := CON, fn := FN, bn := BN }
def ir__law_clause : IB := .cons (.asg (.name 1) (.fn 10 (.cons (.var 0) (.cons (.lst (.cons (.tup (.cons (.cst (D.str "a")) (.cons (.cst (D.str "b")) .nil))) (.cons (.tup (.cons (.cst (D.str "b")) (.cons (.cst (D.str "a")) .nil))) .nil))) .nil)))) (.cons (.ifs (.cmp .Lt (.fn 9 (.cons (.var 0) (.cons (.cst (D.int 5)) .nil))) (.cst (D.int 2))) (.cons (.ret (.tup (.cons (.cst (D.str "has")) (.cons (.bin .Add (.cst (D.int 1)) (.fn 9 (.cons (.var 0) (.cons (.cst (D.int 3)) .nil)))) (.cons (.fn 10 (.cons (.var 0) (.cons (.lst (.cons (.cst (D.str "a")) (.cons (.cst (D.str "b")) (.cons (.cst (D.str "both")) .nil)))) .nil))) .nil))))) .nil) .nil) (.cons (.ret (.bin .Add (.tup (.cons (.fn 10 (.cons (.var 0) (.cons (.lst (.cons (.cst (D.str "all")) (.cons (.cst (D.str "some")) (.cons (.cst (D.str "no")) (.cons (.cst (D.str "allnot")) .nil))))) .nil))) .nil)) (.var 1))) .nil))
theorem sc__law_clause : FnScope C__law_clause.N ["_law_source_here"] (defScope s__law_clause) := ⟨rfl, rfl, rfl, by decide +kernel, rfl, by decide +kernel, by decide +kernel⟩
theorem co__law_clause : compB 60 C__law_clause (defBody s__law_clause) = some ir__law_clause := by rfl
/-! _law_notice: 0 _law_source_here, 1 _law_most, 2 _law_parts, 3 _law_turn, 4 _law_part, 5 _law_at, 6 _law_joint, 7 _law_whole, 8 _law_found -/
abbrev s__law_notice : Stmt := top 29
abbrev C__law_notice : DW.Ctx := { N := ["_law_source_here", "_law_most", "_law_parts", "_law_turn", "_law_part", "_law_at", "_law_joint", "_law_whole", "_law_found"], sc := defScope s__law_notice, blk := none, con := CON, fn := FN, bn := BN }
def ir__law_notice_b0 : IB := .cons (.asg (.name 8) (.bin .Add (.bin .Add (.var 8) (.tup (.cons (.fn 10 (.cons (.var 0) (.cons (.lst (.cons (.cst (D.str "and")) (.cons (.cst (D.str "and")) (.cons (.cst (D.str "or")) (.cons (.cst (D.str "or")) (.cons (.cst (D.str "unless")) (.cons (.cst (D.str "onlyif")) .nil))))))) .nil))) .nil))) (.var 4))) .nil
def ir__law_notice_b1 : IB := .cons (.asg (.name 4) (.tup (.cons (.fn 12 (.cons (.var 0) .nil)) .nil))) (.cons (.ifs (.cmp .Eq (.fn 9 (.cons (.var 0) (.cons (.cst (D.int 4)) .nil))) (.cst (D.int 0))) (.cons (.asg (.name 4) (.bin .Add (.tup (.cons (.cst (D.str "not")) .nil)) (.var 4))) .nil) .nil) (.cons (.expr (.app (.var 2) (.var 4))) .nil))
def ir__law_notice : IB := .cons (.asg (.name 2) (.lst .nil)) (.cons (.fr (.name 3) (.rng1 (.bin .Add (.cst (D.int 1)) (.fn 9 (.cons (.var 0) (.cons (.var 1) .nil))))) ir__law_notice_b1) (.cons (.ifs (.and (.cmp .Gt (.blt .len (.cons (.var 2) .nil)) (.cst (D.int 1))) (.cmp .Eq (.fn 9 (.cons (.var 0) (.cons (.cst (D.int 3)) .nil))) (.cst (D.int 0)))) (.cons (.asg (.name 5) (.fn 9 (.cons (.var 0) (.cons (.bin .Sub (.blt .len (.cons (.var 2) .nil)) (.cst (D.int 1))) .nil)))) (.cons (.asg (.name 6) (.fn 10 (.cons (.var 0) (.cons (.lst (.cons (.cst (D.str "and")) (.cons (.cst (D.str "or")) (.cons (.cst (D.str "unless")) (.cons (.cst (D.str "onlyif")) .nil))))) .nil)))) (.cons (.asg (.name 7) (.bin .Add (.bin .Add (.bin .Add (.bin .Add (.tup (.cons (.cst (D.str "(")) .nil)) (.idx (.var 2) (.var 5))) (.tup (.cons (.var 6) .nil))) (.idx (.var 2) (.bin .Add (.var 5) (.cst (D.int 1))))) (.tup (.cons (.cst (D.str ")")) .nil)))) (.cons (.asg (.name 2) (.bin .Add (.bin .Add (.slc (.var 2) .no (.yes (.var 5))) (.lst (.cons (.ite (.cmp .Eq (.fn 9 (.cons (.var 0) (.cons (.cst (D.int 3)) .nil))) (.cst (D.int 0))) (.bin .Add (.tup (.cons (.cst (D.str "not")) .nil)) (.var 7)) (.var 7)) .nil))) (.slc (.var 2) (.yes (.bin .Add (.var 5) (.cst (D.int 2)))) .no))) .nil)))) .nil) (.cons (.asg (.name 8) (.idx (.var 2) (.cst (D.int 0)))) (.cons (.fr (.name 4) (.val (.slc (.var 2) (.yes (.cst (D.int 1))) .no)) ir__law_notice_b0) (.cons (.ret (.var 8)) .nil)))))
theorem sc__law_notice : FnScope C__law_notice.N ["_law_source_here", "_law_most"] (defScope s__law_notice) := ⟨rfl, rfl, rfl, by decide +kernel, rfl, by decide +kernel, by decide +kernel⟩
theorem co__law_notice : compB 60 C__law_notice (defBody s__law_notice) = some ir__law_notice := by rfl
/-! _law_formula: 0 _law_source_here, 1 _law_deep, 2 _law_way, 3 _law_word, 4 _law_one -/
abbrev s__law_formula : Stmt := top 30
abbrev C__law_formula : DW.Ctx := { N := ["_law_source_here", "_law_deep", "_law_way", "_law_word", "_law_one"], sc := defScope s__law_formula, blk := none, con := CON, fn := FN, bn := BN }
def ir__law_formula : IB := .cons (.asg (.name 2) (.fn 9 (.cons (.var 0) (.cons (.cst (D.int 7)) .nil)))) (.cons (.ifs (.and (.cmp .Gt (.var 1) (.cst (D.int 1))) (.cmp .Gt (.var 2) (.cst (D.int 2)))) (.cons (.ifs (.cmp .Eq (.var 2) (.cst (D.int 3))) (.cons (.ret (.tup (.cons (.cst (D.str "not")) (.cons (.fn 14 (.cons (.var 0) (.cons (.bin .Sub (.var 1) (.cst (D.int 1))) .nil))) .nil)))) .nil) .nil) (.cons (.asg (.name 3) (.fn 10 (.cons (.var 0) (.cons (.lst (.cons (.cst (D.str "and")) (.cons (.cst (D.str "or")) (.cons (.cst (D.str "if")) (.cons (.cst (D.str "other")) .nil))))) .nil)))) (.cons (.asg (.name 4) (.fn 14 (.cons (.var 0) (.cons (.bin .Sub (.var 1) (.cst (D.int 1))) .nil)))) (.cons (.ret (.tup (.cons (.var 3) (.cons (.var 4) (.cons (.fn 14 (.cons (.var 0) (.cons (.bin .Sub (.var 1) (.cst (D.int 1))) .nil))) .nil))))) .nil)))) .nil) (.cons (.ifs (.cmp .Eq (.bin .Mod (.var 2) (.cst (D.int 2))) (.cst (D.int 0))) (.cons (.asg (.name 3) (.fn 10 (.cons (.var 0) (.cons (.lst (.cons (.cst (D.str "least")) (.cons (.cst (D.str "just")) .nil))) .nil)))) (.cons (.ret (.tup (.cons (.var 3) (.cons (.bin .Add (.cst (D.int 1)) (.fn 9 (.cons (.var 0) (.cons (.cst (D.int 3)) .nil)))) (.cons (.fn 10 (.cons (.var 0) (.cons (.lst (.cons (.cst (D.str "a")) (.cons (.cst (D.str "b")) (.cons (.cst (D.str "both")) .nil)))) .nil))) .nil))))) .nil)) .nil) (.cons (.ret (.bin .Add (.tup (.cons (.fn 10 (.cons (.var 0) (.cons (.lst (.cons (.cst (D.str "all")) (.cons (.cst (D.str "some")) (.cons (.cst (D.str "no")) .nil)))) .nil))) .nil)) (.fn 10 (.cons (.var 0) (.cons (.lst (.cons (.tup (.cons (.cst (D.str "a")) (.cons (.cst (D.str "b")) .nil))) (.cons (.tup (.cons (.cst (D.str "b")) (.cons (.cst (D.str "a")) .nil))) .nil))) .nil))))) .nil)))
theorem sc__law_formula : FnScope C__law_formula.N ["_law_source_here", "_law_deep"] (defScope s__law_formula) := ⟨rfl, rfl, rfl, by decide +kernel, rfl, by decide +kernel, by decide +kernel⟩
theorem co__law_formula : compB 60 C__law_formula (defBody s__law_formula) = some ir__law_formula := by rfl
/-! _law_is_triple: 0 _law_value, 1 _law_words, 2 _law_counted -/
abbrev s__law_is_triple : Stmt := top 31
abbrev C__law_is_triple : DW.Ctx := { N := ["_law_value", "_law_words", "_law_counted"], sc := defScope s__law_is_triple, blk := none, con := CON, fn := FN, bn := BN }
def ir__law_is_triple : IB := .cons (.ifs (.or (.not (.val (.blt .isinst (.cons (.var 0) (.cons (.cst (D.ty "tuple")) .nil))))) (.or (.cmp .NotEq (.blt .len (.cons (.var 0) .nil)) (.cst (D.int 3))) (.not (.val (.blt .isinst (.cons (.idx (.var 0) (.cst (D.int 0))) (.cons (.cst (D.ty "str")) .nil))))))) (.cons (.ret (.cst (D.bl false))) .nil) .nil) (.cons (.ifs (.cmp .In (.idx (.var 0) (.cst (D.int 0))) (.var 2)) (.cons (.ret (.and (.fn 11 (.cons (.idx (.var 0) (.cst (D.int 1))) (.cons (.cst (D.int 1)) (.cons (.cst (D.int 3)) .nil)))) (.and (.blt .isinst (.cons (.idx (.var 0) (.cst (D.int 2))) (.cons (.cst (D.ty "str")) .nil))) (.cmp .In (.idx (.var 0) (.cst (D.int 2))) (.lst (.cons (.cst (D.str "a")) (.cons (.cst (D.str "b")) (.cons (.cst (D.str "both")) .nil)))))))) .nil) .nil) (.cons (.ret (.and (.cmp .In (.idx (.var 0) (.cst (D.int 0))) (.var 1)) (.cmp .In (.blt .list (.cons (.slc (.var 0) (.yes (.cst (D.int 1))) .no) .nil)) (.lst (.cons (.lst (.cons (.cst (D.str "a")) (.cons (.cst (D.str "b")) .nil))) (.cons (.lst (.cons (.cst (D.str "b")) (.cons (.cst (D.str "a")) .nil))) .nil)))))) .nil))
theorem sc__law_is_triple : FnScope C__law_is_triple.N ["_law_value", "_law_words", "_law_counted"] (defScope s__law_is_triple) := ⟨rfl, rfl, rfl, by decide +kernel, rfl, by decide +kernel, by decide +kernel⟩
theorem co__law_is_triple : compB 60 C__law_is_triple (defBody s__law_is_triple) = some ir__law_is_triple := by rfl
/-! _law_is_row: 0 _law_signs, 1 _law_row, 2 _law_old, 3 _law_at, 4 _law_sign -/
abbrev s__law_is_row : Stmt := top 32
abbrev C__law_is_row : DW.Ctx := { N := ["_law_signs", "_law_row", "_law_old", "_law_at", "_law_sign"], sc := defScope s__law_is_row, blk := none, con := CON, fn := FN, bn := BN }
def ir__law_is_row_c0 : IT := .cmp .NotEq (.var 2) (.var 1)
def ir__law_is_row_b0 : IB := .cons (.ifs (.cmp .Eq (.slc (.var 1) (.yes (.var 3)) (.yes (.bin .Add (.var 3) (.cst (D.int 2))))) (.lst (.cons (.cst (D.str "not")) (.cons (.cst (D.str "x")) .nil)))) (.cons (.asg (.name 1) (.bin .Add (.bin .Add (.slc (.var 1) .no (.yes (.var 3))) (.lst (.cons (.cst (D.str "x")) .nil))) (.slc (.var 1) (.yes (.bin .Add (.var 3) (.cst (D.int 2)))) .no))) .nil) .nil) (.cons (.ifs (.cmp .Eq (.slc (.var 1) (.yes (.var 3)) (.yes (.bin .Add (.var 3) (.cst (D.int 3))))) (.lst (.cons (.cst (D.str "(")) (.cons (.cst (D.str "x")) (.cons (.cst (D.str ")")) .nil))))) (.cons (.asg (.name 1) (.bin .Add (.bin .Add (.slc (.var 1) .no (.yes (.var 3))) (.lst (.cons (.cst (D.str "x")) .nil))) (.slc (.var 1) (.yes (.bin .Add (.var 3) (.cst (D.int 3)))) .no))) .nil) .nil) (.cons (.ifs (.and (.cmp .Eq (.slc (.var 1) (.yes (.var 3)) (.yes (.bin .Add (.var 3) (.cst (D.int 1))))) (.lst (.cons (.cst (D.str "x")) .nil))) (.and (.cmp .Eq (.slc (.var 1) (.yes (.bin .Add (.var 3) (.cst (D.int 2)))) (.yes (.bin .Add (.var 3) (.cst (D.int 3))))) (.lst (.cons (.cst (D.str "x")) .nil))) (.cmp .In (.idx (.var 1) (.bin .Add (.var 3) (.cst (D.int 1)))) (.fn 17 .nil)))) (.cons (.asg (.name 1) (.bin .Add (.bin .Add (.slc (.var 1) .no (.yes (.var 3))) (.lst (.cons (.cst (D.str "x")) .nil))) (.slc (.var 1) (.yes (.bin .Add (.var 3) (.cst (D.int 3)))) .no))) .nil) .nil) .nil))
def ir__law_is_row_b1 : IB := .cons (.asg (.name 2) (.blt .list (.cons (.var 1) .nil))) (.cons (.fr (.name 3) (.rng1 (.blt .len (.cons (.var 1) .nil))) ir__law_is_row_b0) .nil)
def ir__law_is_row_l0 : IE := .lcp [4] (.name 4) (.val (.var 0)) .none (.ite (.val (.blt .isinst (.cons (.var 4) (.cons (.cst (D.ty "tuple")) .nil)))) (.cst (D.str "x")) (.var 4))
def ir__law_is_row : IB := .cons (.asg (.name 1) ir__law_is_row_l0) (.cons (.asg (.name 2) (.cst (D.non))) (.cons (.wh ir__law_is_row_c0 ir__law_is_row_b1) (.cons (.ret (.cmp .Eq (.var 1) (.lst (.cons (.cst (D.str "x")) .nil)))) .nil)))
theorem sc__law_is_row : FnScope C__law_is_row.N ["_law_signs"] (defScope s__law_is_row) := ⟨rfl, rfl, rfl, by decide +kernel, rfl, by decide +kernel, by decide +kernel⟩
theorem co__law_is_row : compB 60 C__law_is_row (defBody s__law_is_row) = some ir__law_is_row := by rfl
/-! _law_joints:  -/
abbrev s__law_joints : Stmt := top 33
abbrev C__law_joints : DW.Ctx := { N := [], sc := defScope s__law_joints, blk := none, con := CON, fn := FN, bn := BN }
def ir__law_joints : IB := .cons (.ret (.lst (.cons (.cst (D.str "and")) (.cons (.cst (D.str "or")) (.cons (.cst (D.str "unless")) (.cons (.cst (D.str "onlyif")) .nil)))))) .nil
theorem sc__law_joints : FnScope C__law_joints.N [] (defScope s__law_joints) := ⟨rfl, rfl, rfl, by decide +kernel, rfl, by decide +kernel, by decide +kernel⟩
theorem co__law_joints : compB 60 C__law_joints (defBody s__law_joints) = some ir__law_joints := by rfl
/-! _law_is_notice: 0 _law_value, 1 _law_clauses, 2 _law_sign -/
abbrev s__law_is_notice : Stmt := top 34
abbrev C__law_is_notice : DW.Ctx := { N := ["_law_value", "_law_clauses", "_law_sign"], sc := defScope s__law_is_notice, blk := none, con := CON, fn := FN, bn := BN }
def ir__law_is_notice_b0 : IB := .cons (.ifs (.val (.blt .isinst (.cons (.var 2) (.cons (.cst (D.ty "str")) .nil)))) (.cons (.ifs (.cmp .NotIn (.var 2) (.bin .Add (.fn 17 .nil) (.lst (.cons (.cst (D.str "not")) (.cons (.cst (D.str "(")) (.cons (.cst (D.str ")")) .nil)))))) (.cons (.ret (.cst (D.bl false))) .nil) .nil) .nil) (.cons (.ifs (.not (.val (.fn 15 (.cons (.var 2) (.cons (.lst (.cons (.cst (D.str "all")) (.cons (.cst (D.str "some")) (.cons (.cst (D.str "no")) (.cons (.cst (D.str "allnot")) .nil))))) (.cons (.lst (.cons (.cst (D.str "has")) .nil)) .nil)))))) (.cons (.ret (.cst (D.bl false))) .nil) (.cons (.asg (.name 1) (.bin .Add (.var 1) (.cst (D.int 1)))) .nil)) .nil)) .nil
def ir__law_is_notice : IB := .cons (.ifs (.or (.not (.val (.blt .isinst (.cons (.var 0) (.cons (.cst (D.ty "tuple")) .nil))))) (.not (.chn .LtE .LtE (.cst (D.int 1)) (.blt .len (.cons (.var 0) .nil)) (.cst (D.int 16))))) (.cons (.ret (.cst (D.bl false))) .nil) .nil) (.cons (.asg (.name 1) (.cst (D.int 0))) (.cons (.fr (.name 2) (.val (.var 0)) ir__law_is_notice_b0) (.cons (.ret (.and (.cmp .LtE (.var 1) (.cst (D.int 4))) (.fn 16 (.cons (.var 0) .nil)))) .nil)))
theorem sc__law_is_notice : FnScope C__law_is_notice.N ["_law_value"] (defScope s__law_is_notice) := ⟨rfl, rfl, rfl, by decide +kernel, rfl, by decide +kernel, by decide +kernel⟩
theorem co__law_is_notice : compB 60 C__law_is_notice (defBody s__law_is_notice) = some ir__law_is_notice := by rfl
/-! _law_is_house: 0 _law_value, 1 _law_count -/
abbrev s__law_is_house : Stmt := top 35
abbrev C__law_is_house : DW.Ctx := { N := ["_law_value", "_law_count"], sc := defScope s__law_is_house, blk := none, con := CON, fn := FN, bn := BN }
def ir__law_is_house_l0 : IE := .lcp [1] (.name 1) (.val (.var 0)) (.one (.not (.val (.fn 11 (.cons (.var 1) (.cons (.cst (D.int 0)) (.cons (.bin .Pow (.cst (D.int 10)) (.cst (D.int 30))) .nil))))))) (.var 1)
def ir__law_is_house : IB := .cons (.ifs (.or (.not (.val (.blt .isinst (.cons (.var 0) (.cons (.cst (D.ty "tuple")) .nil))))) (.cmp .NotEq (.blt .len (.cons (.var 0) .nil)) (.cst (D.int 4)))) (.cons (.ret (.cst (D.bl false))) .nil) .nil) (.cons (.ret (.cmp .Eq ir__law_is_house_l0 (.lst .nil))) .nil)
theorem sc__law_is_house : FnScope C__law_is_house.N ["_law_value"] (defScope s__law_is_house) := ⟨rfl, rfl, rfl, by decide +kernel, rfl, by decide +kernel, by decide +kernel⟩
theorem co__law_is_house : compB 60 C__law_is_house (defBody s__law_is_house) = some ir__law_is_house := by rfl
/-! _law_is_formula: 0 _law_value, 1 _law_deep, 2 _law_part -/
abbrev s__law_is_formula : Stmt := top 36
abbrev C__law_is_formula : DW.Ctx := { N := ["_law_value", "_law_deep", "_law_part"], sc := defScope s__law_is_formula, blk := none, con := CON, fn := FN, bn := BN }
def ir__law_is_formula_l0 : IE := .lcp [2] (.name 2) (.val (.slc (.var 0) (.yes (.cst (D.int 1))) .no)) (.one (.not (.val (.fn 20 (.cons (.var 2) (.cons (.bin .Sub (.var 1) (.cst (D.int 1))) .nil)))))) (.var 2)
def ir__law_is_formula : IB := .cons (.ifs (.or (.not (.val (.blt .isinst (.cons (.var 0) (.cons (.cst (D.ty "tuple")) .nil))))) (.or (.cmp .Eq (.var 0) (.tup .nil)) (.or (.not (.val (.blt .isinst (.cons (.idx (.var 0) (.cst (D.int 0))) (.cons (.cst (D.ty "str")) .nil))))) (.cmp .Eq (.var 1) (.cst (D.int 0)))))) (.cons (.ret (.cst (D.bl false))) .nil) .nil) (.cons (.ifs (.cmp .In (.idx (.var 0) (.cst (D.int 0))) (.lst (.cons (.cst (D.str "not")) (.cons (.cst (D.str "and")) (.cons (.cst (D.str "or")) (.cons (.cst (D.str "if")) (.cons (.cst (D.str "other")) .nil))))))) (.cons (.ifs (.cmp .NotEq (.blt .len (.cons (.var 0) .nil)) (.ite (.cmp .Eq (.idx (.var 0) (.cst (D.int 0))) (.cst (D.str "not"))) (.cst (D.int 2)) (.cst (D.int 3)))) (.cons (.ret (.cst (D.bl false))) .nil) .nil) (.cons (.ret (.cmp .Eq ir__law_is_formula_l0 (.lst .nil))) .nil)) .nil) (.cons (.ret (.fn 15 (.cons (.var 0) (.cons (.lst (.cons (.cst (D.str "all")) (.cons (.cst (D.str "some")) (.cons (.cst (D.str "no")) .nil)))) (.cons (.lst (.cons (.cst (D.str "least")) (.cons (.cst (D.str "just")) .nil))) .nil))))) .nil))
theorem sc__law_is_formula : FnScope C__law_is_formula.N ["_law_value", "_law_deep"] (defScope s__law_is_formula) := ⟨rfl, rfl, rfl, by decide +kernel, rfl, by decide +kernel, by decide +kernel⟩
theorem co__law_is_formula : compB 60 C__law_is_formula (defBody s__law_is_formula) = some ir__law_is_formula := by rfl
/-! _law_bent: 0 _law_source_here, 1 _law_value, 2 _law_way, 3 _law_at, 4 _law_sign, 5 _law_some -/
abbrev s__law_bent : Stmt := top 37
abbrev C__law_bent : DW.Ctx := { N := ["_law_source_here", "_law_value", "_law_way", "_law_at", "_law_sign", "_law_some"], sc := defScope s__law_bent, blk := none, con := CON, fn := FN, bn := BN }
def ir__law_bent : IB := .cons (.asg (.name 2) (.fn 9 (.cons (.var 0) (.cons (.cst (D.int 8)) .nil)))) (.cons (.ifs (.and (.val (.blt .isinst (.cons (.var 1) (.cons (.cst (D.ty "tuple")) .nil)))) (.and (.cmp .NotEq (.var 1) (.tup .nil)) (.cmp .Gt (.var 2) (.cst (D.int 0))))) (.cons (.asg (.name 3) (.fn 9 (.cons (.var 0) (.cons (.blt .len (.cons (.var 1) .nil)) .nil)))) (.cons (.ifs (.cmp .Eq (.var 2) (.cst (D.int 1))) (.cons (.ret (.bin .Add (.slc (.var 1) .no (.yes (.var 3))) (.slc (.var 1) (.yes (.bin .Add (.var 3) (.cst (D.int 1)))) .no))) .nil) .nil) (.cons (.ifs (.cmp .Eq (.var 2) (.cst (D.int 2))) (.cons (.ret (.bin .Add (.slc (.var 1) .no (.yes (.bin .Add (.var 3) (.cst (D.int 1))))) (.slc (.var 1) (.yes (.var 3)) .no))) .nil) .nil) (.cons (.ifs (.cmp .Eq (.var 2) (.cst (D.int 3))) (.cons (.asg (.name 4) (.fn 10 (.cons (.var 0) (.cons (.lst (.cons (.cst (D.str "not")) (.cons (.cst (D.str "and")) (.cons (.cst (D.str "(")) (.cons (.cst (D.str ")")) (.cons (.tup (.cons (.cst (D.str "all")) (.cons (.cst (D.str "a")) (.cons (.cst (D.str "b")) .nil)))) .nil)))))) .nil)))) (.cons (.ret (.bin .Add (.bin .Add (.slc (.var 1) .no (.yes (.var 3))) (.tup (.cons (.var 4) .nil))) (.slc (.var 1) (.yes (.var 3)) .no))) .nil)) .nil) (.cons (.ret (.bin .Add (.bin .Add (.slc (.var 1) .no (.yes (.var 3))) (.tup (.cons (.fn 21 (.cons (.var 0) (.cons (.idx (.var 1) (.var 3)) .nil))) .nil))) (.slc (.var 1) (.yes (.bin .Add (.var 3) (.cst (D.int 1)))) .no))) .nil))))) .nil) (.cons (.asg (.name 5) (.lst (.cons (.cst (D.non)) (.cons (.cst (D.bl true)) (.cons (.cst (D.int 0)) (.cons (.cst (D.int 1)) (.cons (.cst (D.int 3)) (.cons (.cst (D.int 4)) (.cons (.neg (.cst (D.int 1))) (.cons (.bin .Pow (.cst (D.int 10)) (.cst (D.int 30))) (.cons (.bin .Add (.bin .Pow (.cst (D.int 10)) (.cst (D.int 30))) (.cst (D.int 1))) (.cons (.cst (D.str "")) (.cons (.cst (D.str "a")) (.cons (.cst (D.str "both")) (.cons (.cst (D.str "and")) (.cons (.cst (D.str "or")) (.cons (.cst (D.str "not")) .nil))))))))))))))))) (.cons (.asg (.name 5) (.bin .Add (.var 5) (.lst (.cons (.cst (D.str "(")) (.cons (.cst (D.str ")")) (.cons (.tup .nil) (.cons (.lst .nil) .nil))))))) (.cons (.asg (.name 5) (.bin .Add (.var 5) (.lst (.cons (.cst (D.str "has")) (.cons (.cst (D.str "least")) (.cons (.tup (.cons (.cst (D.str "no")) (.cons (.cst (D.str "b")) (.cons (.cst (D.str "a")) .nil)))) (.cons (.tup (.cons (.cst (D.str "has")) (.cons (.cst (D.int 2)) (.cons (.cst (D.str "a")) .nil)))) (.cons (.tup (.cons (.cst (D.str "just")) (.cons (.cst (D.int 2)) (.cons (.cst (D.str "a")) .nil)))) (.cons (.cst (D.str "if")) .nil))))))))) (.cons (.ret (.fn 10 (.cons (.var 0) (.cons (.var 5) .nil)))) .nil)))))
theorem sc__law_bent : FnScope C__law_bent.N ["_law_source_here", "_law_value"] (defScope s__law_bent) := ⟨rfl, rfl, rfl, by decide +kernel, rfl, by decide +kernel, by decide +kernel⟩
theorem co__law_bent : compB 60 C__law_bent (defBody s__law_bent) = some ir__law_bent := by rfl
/-! _law_told: 0 _law_value, 1 _law_due, 2 _law_turn, 3 _law_shown, 4 _law_truth -/
abbrev s__law_told : Stmt := top 38
abbrev C__law_told : DW.Ctx := { N := ["_law_value", "_law_due", "_law_turn", "_law_shown", "_law_truth"], sc := defScope s__law_told, blk := none, con := CON, fn := FN, bn := BN }
def ir__law_told_l0 : IE := .lcp [4] (.name 4) (.val (.var 3)) (.one (.not (.val (.blt .isinst (.cons (.var 4) (.cons (.cst (D.ty "bool")) .nil)))))) (.var 4)
def ir__law_told_b0 : IB := .cons (.asg (.name 3) (.tup (.cons (.fn 1 (.cons (.var 0) .nil)) (.cons (.fn 2 (.cons (.var 0) .nil)) (.cons (.fn 3 (.cons (.var 0) .nil)) .nil))))) (.cons (.ifs (.or (.cmp .NotEq (.var 3) (.var 1)) (.cmp .NotEq ir__law_told_l0 (.lst .nil))) (.cons (.ret (.cst (D.bl false))) .nil) .nil) .nil)
def ir__law_told : IB := .cons (.asg (.name 1) (.tup (.cons (.fn 18 (.cons (.var 0) .nil)) (.cons (.fn 19 (.cons (.var 0) .nil)) (.cons (.fn 20 (.cons (.var 0) (.cons (.cst (D.int 10)) .nil))) .nil))))) (.cons (.fr (.name 2) (.rng1 (.cst (D.int 2))) ir__law_told_b0) (.cons (.ret (.cst (D.bl true))) .nil))
theorem sc__law_told : FnScope C__law_told.N ["_law_value"] (defScope s__law_told) := ⟨rfl, rfl, rfl, by decide +kernel, rfl, by decide +kernel, by decide +kernel⟩
theorem co__law_told : compB 60 C__law_told (defBody s__law_told) = some ir__law_told := by rfl
/-! law: 0 _law_script, 1 _law_k, 2 _law_source_here, 3 _law_notice_here, 4 _law_formula_here, 5 _law_house, 6 _law_good, 7 _law_value, 8 _law_turn, 9 _law_one, 10 _law_rows, 11 _law_due, 12 _law_deep, 13 _law_sort -/
abbrev s_law : Stmt := top 39
abbrev C_law : DW.Ctx := { N := ["_law_script", "_law_k", "_law_source_here", "_law_notice_here", "_law_formula_here", "_law_house", "_law_good", "_law_value", "_law_turn", "_law_one", "_law_rows", "_law_due", "_law_deep", "_law_sort"], sc := defScope s_law, blk := none, con := CON, fn := FN, bn := BN }
def ir_law_l0 : IE := .lcp [7] (.name 7) (.val (.var 10)) .none (.fn 2 (.cons (.var 7) .nil))
def ir_law_l1 : IE := .lcp [7] (.name 7) (.val (.var 12)) .none (.fn 3 (.cons (.var 7) .nil))
def ir_law_b0 : IB := .cons (.expr (.app (.var 12) (.tup (.cons (.cst (D.str "not")) (.cons (.idx (.var 12) (.neg (.cst (D.int 1)))) .nil))))) .nil
def ir_law_l2 : IE := .lcp [7] (.name 7) (.val (.var 10)) .none (.fn 1 (.cons (.var 7) .nil))
def ir_law_b1 : IB := .cons (.ifs (.not (.val (.fn 22 (.cons (.var 7) .nil)))) (.cons (.ret (.cst (D.bl false))) .nil) .nil) (.cons (.asg (.name 7) (.fn 21 (.cons (.var 2) (.cons (.ite (.cmp .Eq (.bin .Mod (.var 8) (.cst (D.int 4))) (.cst (D.int 0))) (.var 6) (.var 7)) .nil)))) .nil)
def ir_law_b2 : IB := .cons (.asg (.name 7) (.var 6)) (.cons (.fr (.name 8) (.rng1 (.cst (D.int 10))) ir_law_b1) .nil)
def ir_law_l3 : IE := .lcp [13] (.name 13) (.rng1 (.cst (D.int 4))) .none (.fn 9 (.cons (.var 2) (.cons (.cst (D.int 10)) .nil)))
def ir_law_b3 : IB := .cons (.asg (.name 2) (.fn 8 (.cons (.var 0) (.cons (.var 1) .nil)))) (.cons (.par 3 4 (.fn 13 (.cons (.var 2) (.cons (.cst (D.int 4)) .nil))) (.fn 14 (.cons (.var 2) (.cons (.cst (D.int 4)) .nil)))) (.cons (.asg (.name 5) (.blt .tuple (.cons ir_law_l3 .nil))) (.cons (.ifs (.or (.not (.val (.fn 1 (.cons (.var 3) .nil)))) (.or (.not (.val (.fn 3 (.cons (.var 4) .nil)))) (.not (.val (.fn 2 (.cons (.var 5) .nil)))))) (.cons (.ret (.cst (D.bl false))) .nil) .nil) (.cons (.fr (.name 6) (.val (.lst (.cons (.var 3) (.cons (.var 4) (.cons (.var 5) .nil))))) ir_law_b2) (.cons (.ifs (.or (.not (.val (.fn 22 (.cons (.blt .list (.cons (.var 3) .nil)) .nil)))) (.not (.val (.fn 22 (.cons (.blt .list (.cons (.var 4) .nil)) .nil))))) (.cons (.ret (.cst (D.bl false))) .nil) .nil) .nil)))))
def ir_law : IB := .cons (.fr (.name 1) (.rng1 (.bin .Add (.cst (D.int 1)) (.blt .min2 (.cons (.blt .len (.cons (.var 0) .nil)) (.cons (.cst (D.int 10)) .nil))))) ir_law_b3) (.cons (.asg (.name 9) (.tup (.cons (.cst (D.str "all")) (.cons (.cst (D.str "a")) (.cons (.cst (D.str "b")) .nil))))) (.cons (.asg (.name 10) (.lst (.cons (.tup (.cons (.var 9) .nil)) (.cons (.tup (.cons (.cst (D.str "not")) (.cons (.var 9) .nil))) (.cons (.tup (.cons (.var 9) (.cons (.cst (D.str "and")) (.cons (.var 9) .nil)))) (.cons (.tup (.cons (.cst (D.str "(")) (.cons (.var 9) (.cons (.cst (D.str ")")) .nil)))) .nil)))))) (.cons (.asg (.name 10) (.bin .Add (.var 10) (.lst (.cons (.tup (.cons (.cst (D.str "not")) (.cons (.cst (D.str "(")) (.cons (.cst (D.str "not")) (.cons (.var 9) (.cons (.cst (D.str "or")) (.cons (.var 9) (.cons (.cst (D.str ")")) .nil)))))))) (.cons (.tup (.cons (.var 9) (.cons (.var 9) .nil))) .nil))))) (.cons (.asg (.name 10) (.bin .Add (.var 10) (.lst (.cons (.tup (.cons (.cst (D.str "not")) .nil)) (.cons (.tup .nil) (.cons (.tup (.cons (.cst (D.str "(")) (.cons (.var 9) .nil))) (.cons (.tup (.cons (.var 9) (.cons (.cst (D.str ")")) .nil))) (.cons (.tup (.cons (.cst (D.str "and")) (.cons (.var 9) .nil))) (.cons (.tup (.cons (.var 9) (.cons (.cst (D.str "and")) .nil))) (.cons (.tup (.cons (.cst (D.str "(")) (.cons (.cst (D.str ")")) .nil))) (.cons (.tup (.cons (.var 9) (.cons (.cst (D.str "not")) (.cons (.var 9) .nil)))) .nil))))))))))) (.cons (.asg (.name 10) (.bin .Add (.var 10) (.lst (.cons (.bin .Add (.bin .Mult (.tup (.cons (.cst (D.str "not")) .nil)) (.cst (D.int 15))) (.tup (.cons (.var 9) .nil))) (.cons (.bin .Add (.bin .Mult (.tup (.cons (.cst (D.str "not")) .nil)) (.cst (D.int 16))) (.tup (.cons (.var 9) .nil))) (.cons (.bin .Add (.bin .Mult (.tup (.cons (.var 9) (.cons (.cst (D.str "or")) .nil))) (.cst (D.int 3))) (.tup (.cons (.var 9) .nil))) (.cons (.bin .Add (.bin .Mult (.tup (.cons (.var 9) (.cons (.cst (D.str "or")) .nil))) (.cst (D.int 4))) (.tup (.cons (.var 9) .nil))) .nil))))))) (.cons (.asg (.name 11) (.bin .Add (.bin .Add (.bin .Mult (.lst (.cons (.cst (D.bl true)) .nil)) (.cst (D.int 5))) (.bin .Mult (.lst (.cons (.cst (D.bl false)) .nil)) (.cst (D.int 9)))) (.lst (.cons (.cst (D.bl true)) (.cons (.cst (D.bl false)) (.cons (.cst (D.bl true)) (.cons (.cst (D.bl false)) .nil))))))) (.cons (.ifs (.or (.cmp .NotEq ir_law_l2 (.var 11)) (.val (.fn 1 (.cons (.tup (.cons (.tup (.cons (.cst (D.str "has")) (.cons (.cst (D.int 0)) (.cons (.cst (D.str "a")) .nil)))) .nil)) .nil)))) (.cons (.ret (.cst (D.bl false))) .nil) .nil) (.cons (.ifs (.val (.fn 1 (.cons (.tup (.cons (.tup (.cons (.cst (D.str "all")) (.cons (.cst (D.str "a")) (.cons (.cst (D.str "a")) .nil)))) .nil)) .nil))) (.cons (.ret (.cst (D.bl false))) .nil) .nil) (.cons (.asg (.name 12) (.lst (.cons (.var 9) .nil))) (.cons (.fr (.name 8) (.rng1 (.cst (D.int 10))) ir_law_b0) (.cons (.ifs (.cmp .NotEq ir_law_l1 (.bin .Add (.bin .Mult (.lst (.cons (.cst (D.bl true)) .nil)) (.cst (D.int 10))) (.lst (.cons (.cst (D.bl false)) .nil)))) (.cons (.ret (.cst (D.bl false))) .nil) .nil) (.cons (.asg (.name 10) (.lst (.cons (.tup (.cons (.cst (D.int 0)) (.cons (.cst (D.int 0)) (.cons (.cst (D.int 0)) (.cons (.cst (D.int 0)) .nil))))) (.cons (.bin .Mult (.tup (.cons (.bin .Pow (.cst (D.int 10)) (.cst (D.int 30))) .nil)) (.cst (D.int 4))) (.cons (.tup (.cons (.bin .Add (.bin .Pow (.cst (D.int 10)) (.cst (D.int 30))) (.cst (D.int 1))) (.cons (.cst (D.int 0)) (.cons (.cst (D.int 0)) (.cons (.cst (D.int 0)) .nil))))) (.cons (.tup (.cons (.cst (D.int 0)) (.cons (.cst (D.int 0)) (.cons (.cst (D.int 0)) .nil)))) (.cons (.tup (.cons (.cst (D.bl true)) (.cons (.cst (D.int 0)) (.cons (.cst (D.int 0)) (.cons (.cst (D.int 0)) .nil))))) (.cons (.tup (.cons (.cst (D.int 0)) (.cons (.cst (D.int 0)) (.cons (.cst (D.int 0)) (.cons (.neg (.cst (D.int 1))) .nil))))) (.cons (.bin .Mult (.lst (.cons (.cst (D.int 0)) .nil)) (.cst (D.int 4))) .nil))))))))) (.cons (.ret (.cmp .Eq ir_law_l0 (.lst (.cons (.cst (D.bl true)) (.cons (.cst (D.bl true)) (.cons (.cst (D.bl false)) (.cons (.cst (D.bl false)) (.cons (.cst (D.bl false)) (.cons (.cst (D.bl false)) (.cons (.cst (D.bl false)) .nil)))))))))) .nil)))))))))))))
theorem sc_law : FnScope C_law.N ["_law_script"] (defScope s_law) := ⟨rfl, rfl, rfl, by decide +kernel, rfl, by decide +kernel, by decide +kernel⟩
theorem co_law : compB 60 C_law (defBody s_law) = some ir_law := by rfl
end K01

set_option Elab.async false
set_option linter.all false
set_option maxRecDepth 100000
set_option maxHeartbeats 1000000

namespace K01
open PySem PySem.Spec PyProof.Rows L2 DW

/-! ### written values -/
theorem bb (b : Bool) : b = true ∨ b = false := by cases b <;> simp
abbrev sD (x : String) : D := .str (Str.ofString x)
theorem wk_op : wk (.str "(") = true := by decide +kernel
theorem wk_cl : wk (.str ")") = true := by decide +kernel
theorem wk_not : wk (.str "not") = true := by decide +kernel
theorem wk_J : wk (.tup [.str "and", .str "or", .str "unless", .str "onlyif"]) = true := by decide +kernel
theorem wk_O : wk (.tup [.str "not", .str "(", .str ")"]) = true := by decide +kernel
theorem wk_P : wk (.tup [.str "and", .str "or", .str "if", .str "other"]) = true := by decide +kernel
theorem wk_M : wk (.tup [.tup [.str "a", .str "b"], .tup [.str "b", .str "a"]]) = true := by decide +kernel
theorem wk_C : wk (.tup [.str "a", .str "b", .str "both"]) = true := by decide +kernel
theorem wk_w4 : wk (.tup [.str "all", .str "some", .str "no", .str "allnot"]) = true := by decide +kernel
theorem wk_w3 : wk (.tup [.str "all", .str "some", .str "no"]) = true := by decide +kernel
theorem wk_h : wk (.tup [.str "has"]) = true := by decide +kernel
theorem wk_lj : wk (.tup [.str "least", .str "just"]) = true := by decide +kernel
theorem wk_int (i : Int) : wk (.int i) = true := rfl
theorem fit_int (S : Sto) (i : Int) : Fit S (.int i) := ⟨1, 1, by omega, rfl⟩

/-! ### kinds of values -/
def isTup : D → Bool
  | .tup _ => true
  | _ => false
def isStr : D → Bool
  | .str _ => true
  | _ => false
def isInt : D → Bool
  | .int _ => true
  | .bl _ => true
  | _ => false
def isBl : D → Bool
  | .bl _ => true
  | _ => false
theorem kit_tuple (d : D) (h : ∀ n, d ≠ .ty n) : kitB (tyOf d) "tuple" = some (isTup d) := by
  cases d with
  | ty n => exact absurd rfl (h n)
  | non => exact (by decide +kernel : kitB "NoneType" "tuple" = some false)
  | bl b => exact (by decide +kernel : kitB "bool" "tuple" = some false)
  | int b => exact (by decide +kernel : kitB "int" "tuple" = some false)
  | str b => exact (by decide +kernel : kitB "str" "tuple" = some false)
  | tup b => exact (by decide +kernel : kitB "tuple" "tuple" = some true)
  | rol b => exact (by decide +kernel : kitB "list" "tuple" = some false)
  | ref b => exact (by decide +kernel : kitB "list" "tuple" = some false)
theorem kit_str (d : D) (h : ∀ n, d ≠ .ty n) : kitB (tyOf d) "str" = some (isStr d) := by
  cases d with
  | ty n => exact absurd rfl (h n)
  | non => exact (by decide +kernel : kitB "NoneType" "str" = some false)
  | bl b => exact (by decide +kernel : kitB "bool" "str" = some false)
  | int b => exact (by decide +kernel : kitB "int" "str" = some false)
  | str b => exact (by decide +kernel : kitB "str" "str" = some true)
  | tup b => exact (by decide +kernel : kitB "tuple" "str" = some false)
  | rol b => exact (by decide +kernel : kitB "list" "str" = some false)
  | ref b => exact (by decide +kernel : kitB "list" "str" = some false)
theorem kit_int (d : D) (h : ∀ n, d ≠ .ty n) : kitB (tyOf d) "int" = some (isInt d) := by
  cases d with
  | ty n => exact absurd rfl (h n)
  | non => exact (by decide +kernel : kitB "NoneType" "int" = some false)
  | bl b => exact (by decide +kernel : kitB "bool" "int" = some true)
  | int b => exact (by decide +kernel : kitB "int" "int" = some true)
  | str b => exact (by decide +kernel : kitB "str" "int" = some false)
  | tup b => exact (by decide +kernel : kitB "tuple" "int" = some false)
  | rol b => exact (by decide +kernel : kitB "list" "int" = some false)
  | ref b => exact (by decide +kernel : kitB "list" "int" = some false)
theorem kit_bool (d : D) (h : ∀ n, d ≠ .ty n) : kitB (tyOf d) "bool" = some (isBl d) := by
  cases d with
  | ty n => exact absurd rfl (h n)
  | non => exact (by decide +kernel : kitB "NoneType" "bool" = some false)
  | bl b => exact (by decide +kernel : kitB "bool" "bool" = some true)
  | int b => exact (by decide +kernel : kitB "int" "bool" = some false)
  | str b => exact (by decide +kernel : kitB "str" "bool" = some false)
  | tup b => exact (by decide +kernel : kitB "tuple" "bool" = some false)
  | rol b => exact (by decide +kernel : kitB "list" "bool" = some false)
  | ref b => exact (by decide +kernel : kitB "list" "bool" = some false)
theorem _root_.DW.Fit.nty {S : Sto} {d : D} (h : Fit S d) : ∀ n, d ≠ .ty n := fun n e => by
  subst e
  obtain ⟨L, k, _, h⟩ := h
  cases k <;> cases h
theorem _root_.DW.Fit.nrol {S : Sto} {d : D} (h : Fit S d) : ∀ n, d ≠ .rol n := fun n e => by
  subst e
  obtain ⟨L, k, _, h⟩ := h
  cases k <;> cases h

/-! ### the mirrors -/
def isJ (d : D) : Bool := [sD "and", sD "or", sD "unless", sD "onlyif"].any fun c => eqc d c
def isO (d : D) : Bool := [sD "not", sD "(", sD ")"].any fun c => eqc d c
def isP (d : D) : Bool := [sD "and", sD "or", sD "if", sD "other"].any fun c => eqc d c
def isC (d : D) : Bool := [sD "a", sD "b", sD "both"].any fun c => eqc d c
def isM (f s : D) : Bool := [D.tup [sD "a", sD "b"], D.tup [sD "b", sD "a"]].any fun c => eqc (.tup [f, s]) c
def isNum (d : D) (lo hi : Int) : Bool := match d with
  | .int i => decide (lo ≤ i) && decide (i ≤ hi)
  | _ => false
def isTriple (d : D) (ms cs : List D) : Bool := match d with
  | .tup [w, f, s] => if (ms.any fun c => eqc w c) = true then isM f s else (cs.any fun c => eqc w c) && (isNum f 1 3 && isC s)
  | _ => false
abbrev w4 : List D := [sD "all", sD "some", sD "no", sD "allnot"]
abbrev w3 : List D := [sD "all", sD "some", sD "no"]
abbrev wh : List D := [sD "has"]
abbrev wlj : List D := [sD "least", sD "just"]
def isSign (d : D) : Bool := if isStr d = true then isJ d || isO d else isTriple d w4 wh
/-- the program's own step over a row -/
def rowStep (k : Int) (due : Bool) (d : D) : Option (Int × Bool) :=
    if (eqc d (sD "(") && due) = true then some (k + 1, due)
    else if (eqc d (sD ")") && (!due && decide (0 < k))) = true then some (k - 1, due)
    else if (isJ d && !due) = true then some (k, true)
    else if (isTup d && due) = true then some (k, false)
    else if (!eqc d (sD "not") || !due) = true then none
    else some (k, due)
def rowOk : Int → Bool → List D → Bool
  | k, due, [] => decide (k = 0) && !due
  | k, due, d :: r => match rowStep k due d with
    | some (k', due') => rowOk k' due' r
    | none => false
def isNotice (d : D) : Bool := match d with
  | .tup ss => (decide (1 ≤ ss.length) && decide (ss.length ≤ 16)) && (ss.all isSign && (decide ((ss.filter isTup).length ≤ 4) && rowOk 0 true ss))
  | _ => false
def big : Int := 1000000000000000000000000000000
def isHouse (d : D) : Bool := match d with
  | .tup cs => decide (cs.length = 4) && cs.all fun c => isNum c 0 big
  | _ => false
def isNest : Nat → D → Bool
  | 0, _ => false
  | j + 1, d => match d with
    | .tup (w :: r) =>
      if eqc w (sD "not") = true then (match r with
        | [f] => isNest j f
        | _ => false)
      else if isP w = true then (match r with
        | [f, g] => isNest j f && isNest j g
        | _ => false)
      else isTriple (.tup (w :: r)) w3 wlj
    | _ => false

/-! ### the promises -/
abbrev M : Int := 2147483237
/-- the source of draws at n -/
def Src (S : Sto) (n : Nat) : Prop := ∃ a b : Int, S[n]? = some (.lst [.int a, .int b]) ∧ 0 ≤ a ∧ 0 ≤ b ∧ b < M
def pur1 (f : D → D) : FSp := fun ds S Q => ∃ d, ds = [d] ∧ Fit S d ∧ ∀ S', Ext S S' → Q (f d) S'
def spIsRow : FSp := fun ds S Q => ∃ signs, ds = [.tup signs] ∧ (∀ d ∈ signs, Fit S d) ∧ Q (.bl (rowOk 0 true signs)) S
def spIsNotice : FSp := pur1 fun d => .bl (isNotice d)
def spIsHouse : FSp := pur1 fun d => .bl (isHouse d)
def spIsFormula : FSp := fun ds S Q => ∃ d, ds = [d] ∧ Fit S d ∧ Q (.bl (isNest 10 d)) S
def spIsNumber : FSp := fun ds S Q => ∃ d lo hi, ds = [d, .int lo, .int hi] ∧ Fit S d ∧ Q (.bl (isNum d lo hi)) S
def spIsSign : FSp := fun ds S Q => ∃ d, ds = [d] ∧ Fit S d ∧ Q (.bl (isSign d)) S
def spIsTriple : FSp := fun ds S Q => ∃ d ms cs, ds = [d, .tup ms, .tup cs] ∧ Fit S d ∧ wk (.tup ms) = true ∧ wk (.tup cs) = true ∧ Q (.bl (isTriple d ms cs)) S
def spIsNested (n : Nat) : FSp := fun ds S Q => ∃ (d : D) (j : Nat), ds = [d, .int j] ∧ j + 3 ≤ n ∧ Fit S d ∧ Q (.bl (isNest j d)) S
def spSource : FSp := fun ds S Q => ∃ (ns : List Int) (k : Nat), ds = [.rol (ns.map D.int), .int k] ∧ ns.length ≤ 63 ∧ k ≤ 63 ∧ ∀ S' n, Ext S S' → S.length ≤ n → Src S' n → Q (.ref n) S'
def spDraw : FSp := fun ds S Q => ∃ (n : Nat) (m : Int), ds = [.ref n, .int m] ∧ Src S n ∧ 0 < m ∧ m < 1000000 ∧ ∀ S' r, ExtB n S S' → Src S' n → 0 ≤ r → r < m → Q (.int r) S'
def spChoice : FSp := fun ds S Q => ∃ (n m : Nat) (xs : List D), ds = [.ref n, .ref m] ∧ Src S n ∧ m ≠ n ∧ S[m]? = some (.lst xs) ∧ 0 < xs.length ∧ xs.length < 1000 ∧ ∀ S' x, ExtB n S S' → Src S' n → x ∈ xs → Q x S'
/-- a clause as the law draws it -/
def Clause (d : D) : Prop := isTriple d w4 wh = true ∧ ∀ S, okd 3 2 S d = true
def spClause : FSp := fun ds S Q => ∃ n, ds = [.ref n] ∧ Src S n ∧ ∀ S' c, ExtB n S S' → Src S' n → Clause c → Q c S'
def NoticeG (d : D) : Prop := isNotice d = true ∧ ∀ S, okd 16 3 S d = true
def spNotice : FSp := fun ds S Q => ∃ n, ds = [.ref n, .int 4] ∧ Src S n ∧ ∀ S' v, ExtB n S S' → Src S' n → NoticeG v → Q v S'
def FormulaG (j : Nat) (d : D) : Prop := isNest j d = true ∧ ∀ S, okd 3 (j + 1) S d = true
def spFormula (n : Nat) : FSp := fun ds S Q => ∃ (m j : Nat), ds = [.ref m, .int j] ∧ 1 ≤ j ∧ j ≤ 4 ∧ j + 3 ≤ n ∧ Src S m ∧ ∀ S' v, ExtB m S S' → Src S' m → FormulaG j v → Q v S'
def Disj (ms cs : List D) : Prop := (∀ c ∈ ms, isStr c = true) ∧ (∀ c ∈ cs, isStr c = true) ∧ ∀ w, (ms.any fun c => eqc w c) = true → (cs.any fun c => eqc w c) = false
def spLTriple : FSp := fun ds S Q => ∃ (d : D) (m1 m2 : Nat) (ms cs : List D), ds = [d, .ref m1, .ref m2] ∧ Fit S d ∧ S[m1]? = some (.lst ms) ∧ S[m2]? = some (.lst cs) ∧ wk (.tup ms) = true ∧ wk (.tup cs) = true ∧ Disj ms cs ∧ ∀ S', Ext S S' → Q (.bl (isTriple d ms cs)) S'
def spLRow : FSp := fun ds S Q => ∃ signs, ds = [.tup signs] ∧ signs.length ≤ 16 ∧ (∀ d ∈ signs, isSign d = true) ∧ ∀ S', Ext S S' → Q (.bl (rowOk 0 true signs)) S'
abbrev jts : List D := [sD "and", sD "or", sD "unless", sD "onlyif"]
def spJoints : FSp := fun ds S Q => ds = [] ∧ Q (.ref S.length) (S ++ [.lst jts])
def spLNotice : FSp := pur1 fun d => .bl (isNotice d)
def spLHouse : FSp := pur1 fun d => .bl (isHouse d)
def spLFormula (n : Nat) : FSp := fun ds S Q => ∃ (d : D) (j : Nat), ds = [d, .int j] ∧ j + 3 ≤ n ∧ Fit S d ∧ ∀ S', Ext S S' → Q (.bl (isNest j d)) S'
/-- the store without the source -/
def msk (m : Nat) (S : Sto) : Sto := S.set m (.lst [.ty ""])
def spBent (n : Nat) : FSp := fun ds S Q => ∃ (m : Nat) (v : D) (L k : Nat), ds = [.ref m, v] ∧ k + 3 ≤ n ∧ Src S m ∧ okd L k (msk m S) v = true ∧ 16 ≤ L ∧ L ≤ 200 ∧ k ≤ 40 ∧ ∀ S' v', ExtB m S S' → Src S' m → okd (L + 1) (k + 2) (msk m S') v' = true → Q v' S'
def spTold : FSp := pur1 fun _ => .bl true
def spLaw : FSp := fun ds S Q => ∃ ns : List Int, ds = [.rol (ns.map D.int)] ∧ ns.length ≤ 63 ∧ ∀ S', Q (.bl true) S'

def lv (n h : Nat) (sp : FSp) : FSp := fun ds S Q => h ≤ n ∧ sp ds S Q
def fsN (n : Nat) : List FSp := [lv n 1 spIsRow, lv n 4 spIsNotice, lv n 2 spIsHouse, lv n 14 spIsFormula, lv n 3 spIsSign, lv n 1 spIsNumber, lv n 2 spIsTriple, spIsNested n, lv n 1 spSource, lv n 1 spDraw, lv n 2 spChoice, lv n 1 spIsNumber,
  lv n 3 spClause, lv n 4 spNotice, spFormula n, lv n 2 spLTriple, lv n 2 spLRow, lv n 1 spJoints, lv n 3 spLNotice, lv n 2 spLHouse, spLFormula n, spBent n, lv n 15 spTold, lv n 60 spLaw]
theorem f0 (n : Nat) : (fsN n)[0]? = some (lv n 1 spIsRow) := rfl
theorem f1 (n : Nat) : (fsN n)[1]? = some (lv n 4 spIsNotice) := rfl
theorem f2 (n : Nat) : (fsN n)[2]? = some (lv n 2 spIsHouse) := rfl
theorem f3 (n : Nat) : (fsN n)[3]? = some (lv n 14 spIsFormula) := rfl
theorem f5 (n : Nat) : (fsN n)[5]? = some (lv n 1 spIsNumber) := rfl
theorem f4 (n : Nat) : (fsN n)[4]? = some (lv n 3 spIsSign) := rfl
theorem f6 (n : Nat) : (fsN n)[6]? = some (lv n 2 spIsTriple) := rfl
theorem f7 (n : Nat) : (fsN n)[7]? = some (spIsNested n) := rfl
theorem f8 (n : Nat) : (fsN n)[8]? = some (lv n 1 spSource) := rfl
theorem f9 (n : Nat) : (fsN n)[9]? = some (lv n 1 spDraw) := rfl
theorem f10 (n : Nat) : (fsN n)[10]? = some (lv n 2 spChoice) := rfl
theorem f11 (n : Nat) : (fsN n)[11]? = some (lv n 1 spIsNumber) := rfl
theorem f12 (n : Nat) : (fsN n)[12]? = some (lv n 3 spClause) := rfl
theorem f13 (n : Nat) : (fsN n)[13]? = some (lv n 4 spNotice) := rfl
theorem f14 (n : Nat) : (fsN n)[14]? = some (spFormula n) := rfl
theorem f15 (n : Nat) : (fsN n)[15]? = some (lv n 2 spLTriple) := rfl
theorem f16 (n : Nat) : (fsN n)[16]? = some (lv n 2 spLRow) := rfl
theorem f17 (n : Nat) : (fsN n)[17]? = some (lv n 1 spJoints) := rfl
theorem f18 (n : Nat) : (fsN n)[18]? = some (lv n 3 spLNotice) := rfl
theorem f19 (n : Nat) : (fsN n)[19]? = some (lv n 2 spLHouse) := rfl
theorem f20 (n : Nat) : (fsN n)[20]? = some (spLFormula n) := rfl
theorem f21 (n : Nat) : (fsN n)[21]? = some (spBent n) := rfl
theorem f22 (n : Nat) : (fsN n)[22]? = some (lv n 15 spTold) := rfl
end K01

set_option Elab.async false
set_option linter.all false
set_option maxRecDepth 100000
set_option maxHeartbeats 1000000

namespace K01
open PySem PySem.Spec PyProof.Rows L2 DW

theorem row_body {fs : List FSp} {E : DEnds} {S : Sto} {sg d : D} {k : Int} {due : Bool} (hf : Fit S d) (h : match rowStep k due d with
    | some (k', due') => E.nx [some sg, some (.int k'), some (.bl due'), some d] S
    | none => E.rt (.bl false) S) : wB fs ir_is_row_b0 E [some sg, some (.int k), some (.bl due), some d] S := by
  have hty : ∀ n, d ≠ .ty n := hf.nty
  simp only [DW.wG, DW.wGs, gsLen, List.set_cons_succ, List.set_cons_zero, wB, wS, DW.wT, DW.wTs, DW.wE, DW.wA, DW.wO, DW.wI, List.getElem?_cons_succ, List.getElem?_cons_zero, cmp_eq, cmp_ne, cmp_in, cmp_nin, cmp_lt, cmp_le, cmp_gt, cmp_ge, tru_non, tru_bl, tru_int, tru_tup, op_addi, op_subi, op_muli, op_divi, op_modi, op_powi, op_addt, op_rept, len_tup, len_rol, idx_tup, idx_rol, slc_tup, iter_tup, iter_rol, eqc_int, LIM, Nat.reduceLeDiff, dBlt, dIsi, dInt1, defEnds, startD, List.map_cons, List.map_nil, List.length_cons, List.length_nil, List.replicate_succ, List.replicate_zero, List.cons_append, List.nil_append, Nat.reduceAdd, Nat.reduceSub, isRef, Nat.zero_add, and_true, true_and, if_true, Bool.false_eq_true, if_false, ir_is_row_b0, c_JOINTS, dEq_iff hf wk_op, dEq_iff hf wk_cl, dEq_iff hf wk_not, dIn_iff hf wk_J, kit_tuple d hty]
  have hJ : ([D.str "and", D.str "or", D.str "unless", D.str "onlyif"].any fun c => eqc d c) = isJ d := rfl
  simp only [hJ]
  simp only [rowStep] at h
  clear hJ hf hty
  rcases bb (eqc d (.str "(")) with h1 | h1 <;> rcases bb (eqc d (.str ")")) with h2 | h2 <;> rcases bb (eqc d (.str "not")) with h3 | h3 <;> rcases bb (isJ d) with h4 | h4 <;> rcases bb (isTup d) with h5 | h5 <;> rcases bb (decide (0 < k)) with h6 | h6 <;> cases due <;>
    simp only [h1, h2, h3, h4, h5, h6, if_true, true_and, Bool.false_eq_true, if_false, Bool.and_true, Bool.and_false, Bool.true_and, Bool.false_and, Bool.not_true, Bool.not_false, Bool.or_true, Bool.or_false, Bool.true_or, Bool.false_or] at h ⊢ <;> exact h
theorem row_loop (fs : List FSp) {Q : KQ} {E : DEnds} {S : Sto} {sg : D} (hn : ∀ k' due' x', Q (.bl (decide (k' = 0) && !due')) S → E.nx [some sg, some (.int k'), some (.bl due'), x'] S) (hr : Q (.bl false) S → E.rt (.bl false) S) : ∀ (l : List D) (k : Int) (due : Bool) (x : Option D), (∀ d ∈ l, Fit S d) → Q (.bl (rowOk k due l)) S →
    fLoop (fun _ => True) (fun d ρ' S' k => DW.wG fs (.name 3) d ρ' S' k) (fun E' ρ' S' => wB fs ir_is_row_b0 E' ρ' S') E l [some sg, some (.int k), some (.bl due), x] S
  | [], k, due, x, hf, q => ⟨trivial, hn k due x q⟩
  | d :: r, k, due, x, hf, q => by
    refine ⟨trivial, ?_⟩
    have ih := row_loop fs (Q := Q) (E := E) (S := S) (sg := sg) hn hr r
    show wB fs ir_is_row_b0 _ [some sg, some (.int k), some (.bl due), some d] S
    refine row_body (hf d List.mem_cons_self) ?_
    unfold rowOk at q
    cases e : rowStep k due d with
    | none => rw [e] at q; exact hr q
    | some p =>
      obtain ⟨k', due'⟩ := p
      rw [e] at q
      exact ih k' due' (some d) (fun z hz => hf z (List.mem_cons_of_mem _ hz)) q
theorem ob_is_row (n : Nat) (ds : List D) (S : Sto) (Q : KQ) (h : lv (n + 1) 1 spIsRow ds S Q) : wB (fsN n) ir_is_row (defEnds Q) (startD C_is_row.N ds) S := by
  obtain ⟨_, signs, rfl, hf, q⟩ := h
  simp only [DW.wG, DW.wGs, gsLen, List.set_cons_succ, List.set_cons_zero, wB, wS, DW.wT, DW.wTs, DW.wE, DW.wA, DW.wO, DW.wI, List.getElem?_cons_succ, List.getElem?_cons_zero, cmp_eq, cmp_ne, cmp_in, cmp_nin, cmp_lt, cmp_le, cmp_gt, cmp_ge, tru_non, tru_bl, tru_int, tru_tup, op_addi, op_subi, op_muli, op_divi, op_modi, op_powi, op_addt, op_rept, len_tup, len_rol, idx_tup, idx_rol, slc_tup, iter_tup, iter_rol, eqc_int, LIM, Nat.reduceLeDiff, dBlt, dIsi, dInt1, defEnds, startD, List.map_cons, List.map_nil, List.length_cons, List.length_nil, List.replicate_succ, List.replicate_zero, List.cons_append, List.nil_append, Nat.reduceAdd, Nat.reduceSub, isRef, Nat.zero_add, and_true, true_and, if_true, Bool.false_eq_true, if_false, ir_is_row, dIter]
  refine row_loop (fsN n) (Q := Q) (fun k' due' x' q' => ?_) (fun q' => q') signs 0 true none hf q
  simp only [DW.wG, DW.wGs, gsLen, List.set_cons_succ, List.set_cons_zero, wB, wS, DW.wT, DW.wTs, DW.wE, DW.wA, DW.wO, DW.wI, List.getElem?_cons_succ, List.getElem?_cons_zero, cmp_eq, cmp_ne, cmp_in, cmp_nin, cmp_lt, cmp_le, cmp_gt, cmp_ge, tru_non, tru_bl, tru_int, tru_tup, op_addi, op_subi, op_muli, op_divi, op_modi, op_powi, op_addt, op_rept, len_tup, len_rol, idx_tup, idx_rol, slc_tup, iter_tup, iter_rol, eqc_int, LIM, Nat.reduceLeDiff, dBlt, dIsi, dInt1, defEnds, startD, List.map_cons, List.map_nil, List.length_cons, List.length_nil, List.replicate_succ, List.replicate_zero, List.cons_append, List.nil_append, Nat.reduceAdd, Nat.reduceSub, isRef, Nat.zero_add, and_true, true_and, if_true, Bool.false_eq_true, if_false, dEq_iff (fit_int S k') (wk_int 0)]
  rcases bb (decide (k' = 0)) with h1 | h1 <;> simp only [h1, if_true, true_and, Bool.false_eq_true, if_false, Bool.and_true, Bool.and_false, Bool.true_and, Bool.false_and, Bool.not_true, Bool.not_false, Bool.or_true, Bool.or_false, Bool.true_or, Bool.false_or] at q' ⊢ <;> exact q'

theorem ob_is_number (n : Nat) (ds : List D) (S : Sto) (Q : KQ) (h : lv (n + 1) 1 spIsNumber ds S Q) : wB (fsN n) ir_is_number (defEnds Q) (startD C_is_number.N ds) S := by
  obtain ⟨_, d, lo, hi, rfl, hf, q⟩ := h
  have hty := hf.nty
  simp only [DW.wG, DW.wGs, gsLen, List.set_cons_succ, List.set_cons_zero, wB, wS, DW.wT, DW.wTs, DW.wE, DW.wA, DW.wO, DW.wI, List.getElem?_cons_succ, List.getElem?_cons_zero, cmp_eq, cmp_ne, cmp_in, cmp_nin, cmp_lt, cmp_le, cmp_gt, cmp_ge, tru_non, tru_bl, tru_int, tru_tup, op_addi, op_subi, op_muli, op_divi, op_modi, op_powi, op_addt, op_rept, len_tup, len_rol, idx_tup, idx_rol, slc_tup, iter_tup, iter_rol, eqc_int, LIM, Nat.reduceLeDiff, dBlt, dIsi, dInt1, defEnds, startD, List.map_cons, List.map_nil, List.length_cons, List.length_nil, List.replicate_succ, List.replicate_zero, List.cons_append, List.nil_append, Nat.reduceAdd, Nat.reduceSub, isRef, Nat.zero_add, and_true, true_and, if_true, Bool.false_eq_true, if_false, ir_is_number, kit_int d hty, kit_bool d hty]
  cases d with
  | ty n => exact absurd rfl (hty n)
  | int i =>
    simp only [isInt, isBl, cmp_le, if_true, true_and, Bool.false_eq_true, if_false, Bool.and_true, Bool.and_false, Bool.true_and, Bool.false_and, Bool.not_true, Bool.not_false, Bool.or_true, Bool.or_false, Bool.true_or, Bool.false_or, isNum] at q ⊢
    rcases bb (decide (lo ≤ i)) with h1 | h1 <;> simp only [h1, if_true, true_and, Bool.false_eq_true, if_false, Bool.and_true, Bool.and_false, Bool.true_and, Bool.false_and, Bool.not_true, Bool.not_false, Bool.or_true, Bool.or_false, Bool.true_or, Bool.false_or] at q ⊢ <;> exact q
  | _ => simp only [isInt, isBl, if_true, true_and, Bool.false_eq_true, if_false, Bool.and_true, Bool.and_false, Bool.true_and, Bool.false_and, Bool.not_true, Bool.not_false, Bool.or_true, Bool.or_false, Bool.true_or, Bool.false_or, isNum] at q ⊢ <;> exact q
theorem ob__law_from (n : Nat) (ds : List D) (S : Sto) (Q : KQ) (h : lv (n + 1) 1 spIsNumber ds S Q) : wB (fsN n) ir__law_from (defEnds Q) (startD C__law_from.N ds) S := by
  obtain ⟨_, d, lo, hi, rfl, hf, q⟩ := h
  have hty := hf.nty
  simp only [DW.wG, DW.wGs, gsLen, List.set_cons_succ, List.set_cons_zero, wB, wS, DW.wT, DW.wTs, DW.wE, DW.wA, DW.wO, DW.wI, List.getElem?_cons_succ, List.getElem?_cons_zero, cmp_eq, cmp_ne, cmp_in, cmp_nin, cmp_lt, cmp_le, cmp_gt, cmp_ge, tru_non, tru_bl, tru_int, tru_tup, op_addi, op_subi, op_muli, op_divi, op_modi, op_powi, op_addt, op_rept, len_tup, len_rol, idx_tup, idx_rol, slc_tup, iter_tup, iter_rol, eqc_int, LIM, Nat.reduceLeDiff, dBlt, dIsi, dInt1, defEnds, startD, List.map_cons, List.map_nil, List.length_cons, List.length_nil, List.replicate_succ, List.replicate_zero, List.cons_append, List.nil_append, Nat.reduceAdd, Nat.reduceSub, isRef, Nat.zero_add, and_true, true_and, if_true, Bool.false_eq_true, if_false, ir__law_from, kit_int d hty, kit_bool d hty]
  cases d with
  | ty n => exact absurd rfl (hty n)
  | int i =>
    simp only [isInt, isBl, cmp_le, if_true, true_and, Bool.false_eq_true, if_false, Bool.and_true, Bool.and_false, Bool.true_and, Bool.false_and, Bool.not_true, Bool.not_false, Bool.or_true, Bool.or_false, Bool.true_or, Bool.false_or, isNum] at q ⊢
    rcases bb (decide (lo ≤ i)) with h1 | h1 <;> simp only [h1, if_true, true_and, Bool.false_eq_true, if_false, Bool.and_true, Bool.and_false, Bool.true_and, Bool.false_and, Bool.not_true, Bool.not_false, Bool.or_true, Bool.or_false, Bool.true_or, Bool.false_or] at q ⊢ <;> exact q
  | _ => simp only [isInt, isBl, if_true, true_and, Bool.false_eq_true, if_false, Bool.and_true, Bool.and_false, Bool.true_and, Bool.false_and, Bool.not_true, Bool.not_false, Bool.or_true, Bool.or_false, Bool.true_or, Bool.false_or, isNum] at q ⊢ <;> exact q
theorem ob_is_sign (n : Nat) (ds : List D) (S : Sto) (Q : KQ) (h : lv (n + 1) 3 spIsSign ds S Q) : wB (fsN n) ir_is_sign (defEnds Q) (startD C_is_sign.N ds) S := by
  obtain ⟨hl, d, rfl, hf, q⟩ := h
  have hty := hf.nty
  simp only [DW.wG, DW.wGs, gsLen, List.set_cons_succ, List.set_cons_zero, wB, wS, DW.wT, DW.wTs, DW.wE, DW.wA, DW.wO, DW.wI, List.getElem?_cons_succ, List.getElem?_cons_zero, cmp_eq, cmp_ne, cmp_in, cmp_nin, cmp_lt, cmp_le, cmp_gt, cmp_ge, tru_non, tru_bl, tru_int, tru_tup, op_addi, op_subi, op_muli, op_divi, op_modi, op_powi, op_addt, op_rept, len_tup, len_rol, idx_tup, idx_rol, slc_tup, iter_tup, iter_rol, eqc_int, LIM, Nat.reduceLeDiff, dBlt, dIsi, dInt1, defEnds, startD, List.map_cons, List.map_nil, List.length_cons, List.length_nil, List.replicate_succ, List.replicate_zero, List.cons_append, List.nil_append, Nat.reduceAdd, Nat.reduceSub, isRef, Nat.zero_add, and_true, true_and, if_true, Bool.false_eq_true, if_false, ir_is_sign, kit_str d hty, c_JOINTS, c_OTHER_SIGNS, c_MARK_CLAUSES, c_COUNT_CLAUSES, dIn_iff hf wk_J, dIn_iff hf wk_O, f6]
  have hJ : ([D.str "and", D.str "or", D.str "unless", D.str "onlyif"].any fun c => eqc d c) = isJ d := rfl
  have hO : ([D.str "not", D.str "(", D.str ")"].any fun c => eqc d c) = isO d := rfl
  simp only [hJ, hO]
  have ht : Q (.bl (isTriple d w4 wh)) S → lv n 2 spIsTriple [d, .tup w4, .tup wh] S Q := fun z => ⟨by omega, d, w4, wh, rfl, hf, wk_w4, wk_h, z⟩
  unfold isSign at q
  rcases bb (isStr d) with h1 | h1 <;> rcases bb (isJ d) with h2 | h2 <;> simp only [h1, h2, if_true, true_and, Bool.false_eq_true, if_false, Bool.and_true, Bool.and_false, Bool.true_and, Bool.false_and, Bool.not_true, Bool.not_false, Bool.or_true, Bool.or_false, Bool.true_or, Bool.false_or] at q ⊢ <;> first | exact q | exact ht q
theorem any_marks (f s : D) : ([D.tup [D.str "a", D.str "b"], D.tup [D.str "b", D.str "a"]].any fun c => eqc (.tup [f, s]) c) = isM f s := rfl
theorem any_cnt (d : D) : ([D.str "a", D.str "b", D.str "both"].any fun c => eqc d c) = isC d := rfl
theorem _root_.DW.Fit.two {S : Sto} {w f s : D} (h : Fit S (.tup [w, f, s])) : Fit S (.tup [f, s]) := by
  obtain ⟨L, k, hk, h⟩ := h
  refine ⟨L, k, hk, ?_⟩
  cases k with
  | zero => cases h
  | succ k =>
    simp only [okd, List.length_cons, List.length_nil, Bool.and_eq_true, decide_eq_true_eq, List.all_cons, List.all_nil] at h ⊢
    exact ⟨by omega, h.2.2⟩
theorem ob__is_triple (n : Nat) (ds : List D) (S : Sto) (Q : KQ) (h : lv (n + 1) 2 spIsTriple ds S Q) : wB (fsN n) ir__is_triple (defEnds Q) (startD C__is_triple.N ds) S := by
  obtain ⟨hl, d, ms, cs, rfl, hf, hm, hc, q⟩ := h
  have hty := hf.nty
  simp only [DW.wG, DW.wGs, gsLen, List.set_cons_succ, List.set_cons_zero, wB, wS, DW.wT, DW.wTs, DW.wE, DW.wA, DW.wO, DW.wI, List.getElem?_cons_succ, List.getElem?_cons_zero, cmp_eq, cmp_ne, cmp_in, cmp_nin, cmp_lt, cmp_le, cmp_gt, cmp_ge, tru_non, tru_bl, tru_int, tru_tup, op_addi, op_subi, op_muli, op_divi, op_modi, op_powi, op_addt, op_rept, len_tup, len_rol, idx_tup, idx_rol, slc_tup, iter_tup, iter_rol, eqc_int, LIM, Nat.reduceLeDiff, dBlt, dIsi, dInt1, defEnds, startD, List.map_cons, List.map_nil, List.length_cons, List.length_nil, List.replicate_succ, List.replicate_zero, List.cons_append, List.nil_append, Nat.reduceAdd, Nat.reduceSub, isRef, Nat.zero_add, and_true, true_and, if_true, Bool.false_eq_true, if_false, ir__is_triple, kit_tuple d hty, c_MARKS, c_COUNTED, f5, c_MOST_TOLD]
  cases d with
  | ty n => exact absurd rfl (hty n)
  | tup xs =>
    simp only [isTup, len_tup, dEq_iff (fit_int S _) (wk_int 3), eqc_int, if_true, true_and, Bool.false_eq_true, if_false, Bool.and_true, Bool.and_false, Bool.true_and, Bool.false_and, Bool.not_true, Bool.not_false, Bool.or_true, Bool.or_false, Bool.true_or, Bool.false_or]
    match xs, hf, q with
    | [], hf, q => simpa [isTriple] using q
    | [a], hf, q => simpa [isTriple] using q
    | [a, b], hf, q => simpa [isTriple] using q
    | [w, f, s], hf, q =>
      have hw : Fit S w := hf.parts w (by simp)
      have hff : Fit S f := hf.parts f (by simp)
      have hs : Fit S s := hf.parts s (by simp)
      have h2 := hf.two
      simp only [isTriple] at q
      simp only [List.length_cons, List.length_nil, Nat.reduceAdd, show ((3 : Nat) : Int) = 3 from rfl, decide_true, dIn_iff hw hm, dIn_iff hw hc, dIn_iff h2 wk_M, if_true, true_and, Bool.false_eq_true, if_false, Bool.and_true, Bool.and_false, Bool.true_and, Bool.false_and, Bool.not_true, Bool.not_false, Bool.or_true, Bool.or_false, Bool.true_or, Bool.false_or]
      rcases bb (ms.any fun c => eqc w c) with h1 | h1
      · simp only [h1, if_true, any_marks] at q ⊢
        exact q
      · simp only [h1, Bool.false_eq_true, if_false] at q ⊢
        rcases bb (cs.any fun c => eqc w c) with h3 | h3
        · simp only [h3, if_true, Bool.true_and] at q ⊢
          refine ⟨by omega, f, 1, 3, rfl, hff, ?_⟩
          simp only [tru_bl, dIn_iff hs wk_C, any_cnt]
          rcases bb (isNum f 1 3) with h4 | h4 <;> simp only [h4, if_true, true_and, Bool.false_eq_true, if_false, Bool.and_true, Bool.and_false, Bool.true_and, Bool.false_and, Bool.not_true, Bool.not_false, Bool.or_true, Bool.or_false, Bool.true_or, Bool.false_or] at q ⊢ <;> exact q
        · simp only [h3, Bool.false_eq_true, if_false, Bool.false_and] at q ⊢
          exact q
    | a :: b :: c :: e :: r, hf, q =>
      have : ¬ (((a :: b :: c :: e :: r).length : Nat) : Int) = 3 := by simp only [List.length_cons]; omega
      simp only [this, decide_false, if_true, true_and, Bool.false_eq_true, if_false, Bool.and_true, Bool.and_false, Bool.true_and, Bool.false_and, Bool.not_true, Bool.not_false, Bool.or_true, Bool.or_false, Bool.true_or, Bool.false_or]
      simpa [isTriple] using q
  | _ => simpa [isTup, isTriple] using q

theorem at0 (w : D) (r : List D) : atI (w :: r) 0 = some w := atI_nat (xs := w :: r) (j := 0) rfl
theorem any_P (d : D) : ([D.str "and", D.str "or", D.str "if", D.str "other"].any fun c => eqc d c) = isP d := rfl
theorem ob__is_nested (n : Nat) (ds : List D) (S : Sto) (Q : KQ) (h : spIsNested (n + 1) ds S Q) : wB (fsN n) ir__is_nested (defEnds Q) (startD C__is_nested.N ds) S := by
  obtain ⟨d, j, rfl, hl, hf, q⟩ := h
  have hty := hf.nty
  simp only [DW.wG, DW.wGs, gsLen, List.set_cons_succ, List.set_cons_zero, wB, wS, DW.wT, DW.wTs, DW.wE, DW.wA, DW.wO, DW.wI, List.getElem?_cons_succ, List.getElem?_cons_zero, cmp_eq, cmp_ne, cmp_in, cmp_nin, cmp_lt, cmp_le, cmp_gt, cmp_ge, tru_non, tru_bl, tru_int, tru_tup, op_addi, op_subi, op_muli, op_divi, op_modi, op_powi, op_addt, op_rept, len_tup, len_rol, idx_tup, idx_rol, slc_tup, iter_tup, iter_rol, eqc_int, LIM, Nat.reduceLeDiff, dBlt, dIsi, dInt1, defEnds, startD, List.map_cons, List.map_nil, List.length_cons, List.length_nil, List.replicate_succ, List.replicate_zero, List.cons_append, List.nil_append, Nat.reduceAdd, Nat.reduceSub, isRef, Nat.zero_add, and_true, true_and, if_true, Bool.false_eq_true, if_false, ir__is_nested, kit_tuple d hty, c_PAIR_WORDS, f7, f6, dEq_iff (fit_int S _) (wk_int 0)]
  cases j with
  | zero => simpa [isNest] using q
  | succ j =>
    have hj : ¬ ((j + 1 : Nat) : Int) = 0 := by omega
    have hj1 : ((j + 1 : Nat) : Int) - 1 = (j : Int) := by omega
    simp only [hj, hj1, decide_false, if_true, true_and, Bool.false_eq_true, if_false, Bool.and_true, Bool.and_false, Bool.true_and, Bool.false_and, Bool.not_true, Bool.not_false, Bool.or_true, Bool.or_false, Bool.true_or, Bool.false_or]
    have call : ∀ f B, Fit S f → B (D.bl (isNest j f)) S → spIsNested n [f, .int j] S B := fun f B hf hb => ⟨f, j, rfl, by omega, hf, hb⟩
    cases d with
    | ty n => exact absurd rfl (hty n)
    | tup xs =>
      simp only [isTup, len_tup, dEq_iff (fit_int S _) (wk_int 0), eqc_int, idx_tup, if_true, true_and, Bool.false_eq_true, if_false, Bool.and_true, Bool.and_false, Bool.true_and, Bool.false_and, Bool.not_true, Bool.not_false, Bool.or_true, Bool.or_false, Bool.true_or, Bool.false_or]
      cases xs with
      | nil => simpa [isNest] using q
      | cons w r =>
        have hw : Fit S w := hf.parts w (by simp)
        have h0 : ¬ (((w :: r).length : Nat) : Int) = 0 := by simp only [List.length_cons]; omega
        simp only [h0, decide_false, if_true, true_and, Bool.false_eq_true, if_false, Bool.and_true, Bool.and_false, Bool.true_and, Bool.false_and, Bool.not_true, Bool.not_false, Bool.or_true, Bool.or_false, Bool.true_or, Bool.false_or]
        refine ⟨w, at0 w r, ?_⟩
        simp only [dEq_iff hw wk_not]
        simp only [isNest] at q
        rcases bb (eqc w (D.str "not")) with h1 | h1
        · simp only [h1, if_true] at q ⊢
          simp only [dEq_iff (fit_int S _) (wk_int 2), eqc_int]
          match r, hf, q with
          | [f], hf, q =>
            simp only [List.length_cons, List.length_nil, show ((0 + 1 + 1 : Nat) : Int) = 2 from rfl, decide_true, if_true, tru_bl] at q ⊢
            exact ⟨f, rfl, call f _ (hf.parts f (by simp)) q⟩
          | [], hf, q => simpa using q
          | a :: b :: r, hf, q =>
            have : ¬ (((w :: a :: b :: r).length : Nat) : Int) = 2 := by simp only [List.length_cons]; omega
            simp only [this, decide_false, tru_bl, if_true, true_and, Bool.false_eq_true, if_false, Bool.and_true, Bool.and_false, Bool.true_and, Bool.false_and, Bool.not_true, Bool.not_false, Bool.or_true, Bool.or_false, Bool.true_or, Bool.false_or]
            exact q
        · simp only [h1, Bool.false_eq_true, if_false] at q ⊢
          refine ⟨w, at0 w r, ?_⟩
          simp only [dIn_iff hw wk_P, any_P]
          rcases bb (isP w) with h2 | h2
          · simp only [h2, if_true] at q ⊢
            simp only [dEq_iff (fit_int S _) (wk_int 3), eqc_int]
            match r, hf, q with
            | [f, g], hf, q =>
              simp only [List.length_cons, List.length_nil, show ((0 + 1 + 1 + 1 : Nat) : Int) = 3 from rfl, decide_true, if_true, tru_bl] at q ⊢
              refine ⟨f, rfl, call f _ (hf.parts f (by simp)) ?_⟩
              simp only [tru_bl]
              rcases bb (isNest j f) with h3 | h3
              · simp only [h3, if_true, Bool.true_and] at q ⊢
                exact ⟨g, rfl, call g _ (hf.parts g (by simp)) q⟩
              · simp only [h3, Bool.false_eq_true, if_false, Bool.false_and] at q ⊢
                exact q
            | [], hf, q => simpa using q
            | [a], hf, q => simpa using q
            | a :: b :: c :: r, hf, q =>
              have : ¬ (((w :: a :: b :: c :: r).length : Nat) : Int) = 3 := by simp only [List.length_cons]; omega
              simp only [this, decide_false, tru_bl, if_true, true_and, Bool.false_eq_true, if_false, Bool.and_true, Bool.and_false, Bool.true_and, Bool.false_and, Bool.not_true, Bool.not_false, Bool.or_true, Bool.or_false, Bool.true_or, Bool.false_or]
              exact q
          · simp only [h2, Bool.false_eq_true, if_false] at q ⊢
            exact ⟨by omega, _, _, _, rfl, hf, wk_w3, wk_lj, q⟩
    | _ => simpa [isTup, isNest] using q
theorem ob_is_formula (n : Nat) (ds : List D) (S : Sto) (Q : KQ) (h : lv (n + 1) 14 spIsFormula ds S Q) : wB (fsN n) ir_is_formula (defEnds Q) (startD C_is_formula.N ds) S := by
  obtain ⟨hl, d, rfl, hf, q⟩ := h
  simp only [DW.wG, DW.wGs, gsLen, List.set_cons_succ, List.set_cons_zero, wB, wS, DW.wT, DW.wTs, DW.wE, DW.wA, DW.wO, DW.wI, List.getElem?_cons_succ, List.getElem?_cons_zero, cmp_eq, cmp_ne, cmp_in, cmp_nin, cmp_lt, cmp_le, cmp_gt, cmp_ge, tru_non, tru_bl, tru_int, tru_tup, op_addi, op_subi, op_muli, op_divi, op_modi, op_powi, op_addt, op_rept, len_tup, len_rol, idx_tup, idx_rol, slc_tup, iter_tup, iter_rol, eqc_int, LIM, Nat.reduceLeDiff, dBlt, dIsi, dInt1, defEnds, startD, List.map_cons, List.map_nil, List.length_cons, List.length_nil, List.replicate_succ, List.replicate_zero, List.cons_append, List.nil_append, Nat.reduceAdd, Nat.reduceSub, isRef, Nat.zero_add, and_true, true_and, if_true, Bool.false_eq_true, if_false, ir_is_formula, c_MOST_DEPTH, f7]
  exact ⟨d, 10, rfl, by omega, hf, q⟩
/-- a comprehension of truths over a tuple's parts -/
theorem all_lcp {fs : List FSp} {S : Sto} {ρ : En} {xs : List D} {i : Nat} {elt : IE} {own : List Nat} {B : KQ} (f : D → Bool) (hl : xs.length ≤ 1000) (hv : wipeD ρ own = wipeD ρ own)
    (helt : ∀ d ∈ xs, ∀ S1 (R : KQ), Ext S S1 → (∀ S2, Ext S1 S2 → R (.bl (f d)) S2) → DW.wE fs elt ((wipeD ρ own).set i (some d)) S1 R)
    (hB : ∀ S', Ext S S' → S'[S.length]? = some (.lst (xs.map fun d => D.bl (f d))) → B (.ref S.length) S') {e : IE} (he : DW.wE fs e ρ S = fun R => R (.tup xs) S) :
    DW.wE fs (.lcp own (.name i) (.val e) .none elt) ρ S B := by
  simp only [DW.wE, DW.wI, he, iter_tup]
  refine cLoop_ext (fun d => some (.bl (f d))) (by simp only [LIM]; omega) (fun _ _ => trivial) (fun d hd S1 ky kn e1 k => ?_) fun S' e1 e2 => hB S' e1 (by rw [e2]; simp)
  simp only [DW.wG, DW.wTs, if_true]
  exact helt d hd S1 _ e1 k
theorem map_bl (xs : List D) (f : D → Bool) : (xs.map fun d => D.bl (f d)) = (xs.map f).map D.bl := by simp
theorem ob_is_house (n : Nat) (ds : List D) (S : Sto) (Q : KQ) (h : lv (n + 1) 2 spIsHouse ds S Q) : wB (fsN n) ir_is_house (defEnds Q) (startD C_is_house.N ds) S := by
  obtain ⟨hl, d, rfl, hf, q⟩ := h
  have hty := hf.nty
  simp only [DW.wG, DW.wGs, gsLen, List.set_cons_succ, List.set_cons_zero, wB, wS, DW.wT, DW.wTs, DW.wE, DW.wA, DW.wO, DW.wI, List.getElem?_cons_succ, List.getElem?_cons_zero, cmp_eq, cmp_ne, cmp_in, cmp_nin, cmp_lt, cmp_le, cmp_gt, cmp_ge, tru_non, tru_bl, tru_int, tru_tup, op_addi, op_subi, op_muli, op_divi, op_modi, op_powi, op_addt, op_rept, len_tup, len_rol, idx_tup, idx_rol, slc_tup, iter_tup, iter_rol, eqc_int, LIM, Nat.reduceLeDiff, dBlt, dIsi, dInt1, defEnds, startD, List.map_cons, List.map_nil, List.length_cons, List.length_nil, List.replicate_succ, List.replicate_zero, List.cons_append, List.nil_append, Nat.reduceAdd, Nat.reduceSub, isRef, Nat.zero_add, and_true, true_and, if_true, Bool.false_eq_true, if_false, ir_is_house, kit_tuple d hty, c_SORTS]
  cases d with
  | ty n => exact absurd rfl (hty n)
  | tup xs =>
    simp only [isTup, len_tup, dEq_iff (fit_int S _) (wk_int 4), eqc_int, if_true, true_and, Bool.false_eq_true, if_false, Bool.and_true, Bool.and_false, Bool.true_and, Bool.false_and, Bool.not_true, Bool.not_false, Bool.or_true, Bool.or_false, Bool.true_or, Bool.false_or]
    by_cases h4 : xs.length = 4
    · have h4' : ((xs.length : Nat) : Int) = 4 := by omega
      simp only [h4', decide_true, if_true, true_and, Bool.false_eq_true, if_false, Bool.and_true, Bool.and_false, Bool.true_and, Bool.false_and, Bool.not_true, Bool.not_false, Bool.or_true, Bool.or_false, Bool.true_or, Bool.false_or]
      unfold ir_is_house_l0
      refine all_lcp (xs := xs) (fun c => isNum c 0 big) (by omega) rfl (fun d hd S1 R e1 k => ?_) (fun S' e1 e2 => ?_) (he := by funext R; rfl)
      · simp only [DW.wG, DW.wGs, gsLen, List.set_cons_succ, List.set_cons_zero, wB, wS, DW.wT, DW.wTs, DW.wE, DW.wA, DW.wO, DW.wI, List.getElem?_cons_succ, List.getElem?_cons_zero, cmp_eq, cmp_ne, cmp_in, cmp_nin, cmp_lt, cmp_le, cmp_gt, cmp_ge, tru_non, tru_bl, tru_int, tru_tup, op_addi, op_subi, op_muli, op_divi, op_modi, op_powi, op_addt, op_rept, len_tup, len_rol, idx_tup, idx_rol, slc_tup, iter_tup, iter_rol, eqc_int, LIM, Nat.reduceLeDiff, dBlt, dIsi, dInt1, defEnds, startD, List.map_cons, List.map_nil, List.length_cons, List.length_nil, List.replicate_succ, List.replicate_zero, List.cons_append, List.nil_append, Nat.reduceAdd, Nat.reduceSub, isRef, Nat.zero_add, and_true, true_and, if_true, Bool.false_eq_true, if_false, wipeD, f5, c_MOST_PEOPLE]
        exact ⟨by omega, d, 0, big, rfl, (hf.parts d hd).ext e1, k S1 (Ext.refl S1)⟩
      · rw [map_bl] at e2
        simp only [bools_ref e2]
        have := q S' e1
        simp only [isHouse, h4, decide_true, Bool.true_and] at this
        rw [List.all_map]
        exact this
    · have h4' : ¬ ((xs.length : Nat) : Int) = 4 := by omega
      simp only [h4', decide_false, if_true, true_and, Bool.false_eq_true, if_false, Bool.and_true, Bool.and_false, Bool.true_and, Bool.false_and, Bool.not_true, Bool.not_false, Bool.or_true, Bool.or_false, Bool.true_or, Bool.false_or]
      have := q S (Ext.refl S)
      simp only [isHouse, h4, decide_false, Bool.false_and] at this
      exact this
  | _ => simpa [isTup, isHouse] using q S (Ext.refl S)
end K01

set_option Elab.async false
set_option linter.all false
set_option maxRecDepth 100000
set_option maxHeartbeats 1000000

namespace K01
open PySem PySem.Spec PyProof.Rows L2 DW

/-! ### lists compared -/
theorem wk_mapM {S : Sto} {k : Nat} {cs : List D} (hk : 20 ≤ k) (h : wk (.tup cs) = true) : cs.mapM (toPy k S) = some (pycs cs) := by
  unfold wk at h
  rw [Bool.and_eq_true] at h
  obtain ⟨h1, h2⟩ := h
  have hw : wrs cs = true := by simpa [wr] using h1
  have h3 : decide (cs.length ≤ 1000) = true ∧ cs.all (okd 1000 19 []) = true := by
    have := h2
    unfold okd at this
    rw [Bool.and_eq_true] at this
    exact this
  refine toPys_of (toPy_wr k) cs hw fun d hd => ⟨[], ?_⟩
  exact okd_mono (Nat.le_refl _) (by omega) (List.all_eq_true.mp h3.2 d hd)
theorem wk_shape {cs : List D} (h : wk (.tup cs) = true) : SeqAt.shaped (.list (pycs cs)) = true ∧ (pyc (.tup cs)).depth ≤ 20 ∧ PyData.canLayAll0 (pycs cs) = true := by
  obtain ⟨_, s1, _⟩ := wk_py (S := []) h
  have h0 := h
  unfold wk at h
  rw [Bool.and_eq_true] at h
  obtain ⟨p, e3, h1, h2⟩ := py_of (j := 20) (Nat.le_refl _) h.2
  have e4 := toPy_wr (S := []) 20 (.tup cs) h.1 ⟨[], h.2⟩
  rw [e4] at e3
  cases e3
  exact ⟨by simpa [SeqAt.shaped, PyData.canLay0, PyData.depth, pyc] using s1, h2, by simpa [pyc, PyData.canLay0] using h1⟩
theorem dEq_ll {S : Sto} {a b : Nat} {xs ys : List D} {Q : KB} (h1 : S[a]? = some (.lst xs)) (h2 : S[b]? = some (.lst ys)) (w1 : wk (.tup xs) = true) (w2 : wk (.tup ys) = true) (q : Q (eqcs xs ys) S) : dEq (.ref a) (.ref b) S Q := by
  have m1 := wk_mapM (S := S) (k := 65) (by omega) w1
  have m2 := wk_mapM (S := S) (k := 65) (by omega) w2
  refine ⟨.list (pycs xs), .list (pycs ys), by rw [toPy_ref 65 h1, m1]; rfl, by rw [toPy_ref 65 h2, m2]; rfl, (wk_shape w1).1, (wk_shape w2).1, ?_⟩
  have e := (eqvs_of (S := S) (k := 65) (eqv_pyc 65) ys (wk_pys w2) xs (pycs xs) m1).1
  show Q (PyData.eqvAll (pycs xs) (pycs ys)) S
  rw [e]
  exact q
/-- a list against the empty one -/
theorem dEq_l0 {S : Sto} {a b : Nat} {xs : List D} {Q : KB} (h1 : S[a]? = some (.lst xs)) (hf : Fit S (.ref a)) (h2 : S[b]? = some (.lst [])) (q : Q xs.isEmpty S) : dEq (.ref a) (.ref b) S Q := by
  obtain ⟨p, e, s⟩ := hf.py
  refine ⟨p, .list [], e, by rw [toPy_ref 65 h2]; rfl, s, by decide, ?_⟩
  rw [toPy_ref 65 h1] at e
  cases e1 : xs.mapM (toPy 65 S) with
  | none => rw [e1] at e; cases e
  | some ps =>
    rw [e1] at e
    cases e
    have : PyData.eqv (.list ps) (.list []) = xs.isEmpty := by
      cases xs with
      | nil => cases e1; rfl
      | cons x r =>
        obtain ⟨y, ys, rfl, _, _⟩ := mapM_cons' e1
        rfl
    rw [this]
    exact q
/-- a list in a list of two written lists -/
theorem dIn_ll {S : Sto} {x n p1 p2 : Nat} {fs as bs : List D} {Q : KB} (hx : S[x]? = some (.lst fs)) (hf : Fit S (.ref x)) (hn : S[n]? = some (.lst [.ref p1, .ref p2])) (h1 : S[p1]? = some (.lst as)) (h2 : S[p2]? = some (.lst bs)) (w1 : wk (.tup as) = true) (w2 : wk (.tup bs) = true)
    (q : Q (eqcs fs as || (eqcs fs bs || false)) S) : dIn (.ref x) (.ref n) S Q := by
  obtain ⟨p, e, s⟩ := hf.py
  have m1 := wk_mapM (S := S) (k := 64) (by omega) w1
  have m2 := wk_mapM (S := S) (k := 64) (by omega) w2
  have t1 : toPy 65 S (.ref p1) = some (.list (pycs as)) := by rw [toPy_ref 64 h1, m1]; rfl
  have t2 : toPy 65 S (.ref p2) = some (.list (pycs bs)) := by rw [toPy_ref 64 h2, m2]; rfl
  have t3 : toPy 66 S (.ref n) = some (.list [.list (pycs as), .list (pycs bs)]) := by
    rw [toPy_ref 65 hn, List.mapM_cons, List.mapM_cons, t1, t2]; rfl
  obtain ⟨_, d1, l1⟩ := wk_shape w1
  obtain ⟨_, d2, l2⟩ := wk_shape w2
  have sh : SeqAt.shaped (.list [.list (pycs as), .list (pycs bs)]) = true := by
    have d1' : PyData.depthAll (pycs as) + 1 ≤ 20 := by simpa [pyc, PyData.depth, Nat.add_comm] using d1
    have d2' : PyData.depthAll (pycs bs) + 1 ≤ 20 := by simpa [pyc, PyData.depth, Nat.add_comm] using d2
    show ((PyData.list [.list (pycs as), .list (pycs bs)]).canLay0 && decide ((PyData.list [.list (pycs as), .list (pycs bs)]).depth ≤ 64)) = true
    rw [Bool.and_eq_true]
    refine ⟨by simp [PyData.canLay0, PyData.canLayAll0, l1, l2], decide_eq_true ?_⟩
    simp only [PyData.depth, PyData.depthAll]
    omega
  refine ⟨p, _, e, t3, s, sh, .inr ⟨_, rfl, ?_⟩⟩
  rw [toPy_ref 65 hx] at e
  cases e1 : fs.mapM (toPy 65 S) with
  | none => rw [e1] at e; cases e
  | some ps =>
    rw [e1] at e
    cases e
    have g1 := (eqvs_of (S := S) (k := 65) (eqv_pyc 65) as (wk_pys w1) fs ps e1).2
    have g2 := (eqvs_of (S := S) (k := 65) (eqv_pyc 65) bs (wk_pys w2) fs ps e1).2
    simp only [List.any_cons, List.any_nil, PyData.eqv]
    rw [g1, g2]
    exact q
theorem any_nstr {w : D} (hw : isStr w = false) : ∀ {ms : List D}, (∀ c ∈ ms, isStr c = true) → (ms.any fun c => eqc w c) = false
  | [], _ => rfl
  | c :: r, h => by
    rw [List.any_cons, any_nstr hw fun d hd => h d (List.mem_cons_of_mem _ hd), Bool.or_false]
    have hc := h c List.mem_cons_self
    cases c with
    | str x => cases w <;> first | rfl | cases hw
    | _ => cases hc
/-- a new list of fit parts is fit -/
theorem fit_new {S : Sto} {ds : List D} (h : Fit S (.tup ds)) : Fit (S ++ [.lst ds]) (.ref S.length) := by
  obtain ⟨L, k, hk, h⟩ := h
  refine ⟨L, k, hk, ?_⟩
  cases k with
  | zero => cases h
  | succ k =>
    simp only [okd, sto_last]
    simp only [okd, Bool.and_eq_true] at h
    rw [Bool.and_eq_true]
    exact ⟨h.1, all_mono (fun d _ q => okd_ext (Ext.app S _) q) h.2⟩
theorem fit_list {S : Sto} {n : Nat} {xs ys : List D} (h : Fit S (.tup xs)) (hs : ∀ d ∈ ys, d ∈ xs) (hl : ys.length ≤ xs.length) (hn : S[n]? = some (.lst ys)) : Fit S (.ref n) := by
  obtain ⟨L, k, hk, h⟩ := h
  refine ⟨L, k, hk, ?_⟩
  cases k with
  | zero => cases h
  | succ k =>
    simp only [okd, hn]
    simp only [okd, Bool.and_eq_true, decide_eq_true_eq, List.all_eq_true] at h ⊢
    exact ⟨by omega, fun d hd => h.2 d (hs d hd)⟩
theorem cut1 (w : D) (r : List D) : DW.cutD (w :: r) (some 1) none = r := by
  unfold DW.cutD HT.sIx
  simp

theorem ob__law_joints (n : Nat) (ds : List D) (S : Sto) (Q : KQ) (h : lv (n + 1) 1 spJoints ds S Q) : wB (fsN n) ir__law_joints (defEnds Q) (startD C__law_joints.N ds) S := by
  obtain ⟨_, rfl, q⟩ := h
  simp only [DW.wG, DW.wGs, gsLen, List.set_cons_succ, List.set_cons_zero, wB, wS, DW.wT, DW.wTs, DW.wE, DW.wA, DW.wO, DW.wI, List.getElem?_cons_succ, List.getElem?_cons_zero, cmp_eq, cmp_ne, cmp_in, cmp_nin, cmp_lt, cmp_le, cmp_gt, cmp_ge, tru_non, tru_bl, tru_int, tru_tup, op_addi, op_subi, op_muli, op_divi, op_modi, op_powi, op_addt, op_rept, len_tup, len_rol, idx_tup, idx_rol, slc_tup, iter_tup, iter_rol, eqc_int, LIM, Nat.reduceLeDiff, dBlt, dIsi, dInt1, defEnds, startD, List.map_cons, List.map_nil, List.length_cons, List.length_nil, List.replicate_succ, List.replicate_zero, List.cons_append, List.nil_append, Nat.reduceAdd, Nat.reduceSub, isRef, Nat.zero_add, and_true, true_and, if_true, Bool.false_eq_true, if_false, ir__law_joints]
  exact q
theorem wk_ab : wk (.tup [.str "a", .str "b"]) = true := by decide +kernel
theorem wk_ba : wk (.tup [.str "b", .str "a"]) = true := by decide +kernel
theorem eqc_isStr {d : D} {x : String} (h : isStr d = false) : eqc d (.str (Str.ofString x)) = false := by
  cases d <;> first | rfl | cases h
theorem ob__law_is_triple (n : Nat) (ds : List D) (S : Sto) (Q : KQ) (h : lv (n + 1) 2 spLTriple ds S Q) : wB (fsN n) ir__law_is_triple (defEnds Q) (startD C__law_is_triple.N ds) S := by
  obtain ⟨hl, d, m1, m2, ms, cs, rfl, hf, hm1, hm2, hm, hc, ⟨dj1, dj2, dj3⟩, q⟩ := h
  have hty := hf.nty
  simp only [DW.wG, DW.wGs, gsLen, List.set_cons_succ, List.set_cons_zero, wB, wS, DW.wT, DW.wTs, DW.wE, DW.wA, DW.wO, DW.wI, List.getElem?_cons_succ, List.getElem?_cons_zero, cmp_eq, cmp_ne, cmp_in, cmp_nin, cmp_lt, cmp_le, cmp_gt, cmp_ge, tru_non, tru_bl, tru_int, tru_tup, op_addi, op_subi, op_muli, op_divi, op_modi, op_powi, op_addt, op_rept, len_tup, len_rol, idx_tup, idx_rol, slc_tup, iter_tup, iter_rol, eqc_int, LIM, Nat.reduceLeDiff, dBlt, dIsi, dInt1, defEnds, startD, List.map_cons, List.map_nil, List.length_cons, List.length_nil, List.replicate_succ, List.replicate_zero, List.cons_append, List.nil_append, Nat.reduceAdd, Nat.reduceSub, isRef, Nat.zero_add, and_true, true_and, if_true, Bool.false_eq_true, if_false, ir__law_is_triple, kit_tuple d hty, f11]
  cases d with
  | ty n => exact absurd rfl (hty n)
  | tup xs =>
    simp only [isTup, len_tup, dEq_iff (fit_int S _) (wk_int 3), eqc_int, idx_tup, if_true, true_and, Bool.false_eq_true, if_false, Bool.and_true, Bool.and_false, Bool.true_and, Bool.false_and, Bool.not_true, Bool.not_false, Bool.or_true, Bool.or_false, Bool.true_or, Bool.false_or]
    match xs, hf, q with
    | [], hf, q => simpa [isTriple] using q S (Ext.refl S)
    | [a], hf, q => simpa [isTriple] using q S (Ext.refl S)
    | [a, b], hf, q => simpa [isTriple] using q S (Ext.refl S)
    | a :: b :: c :: e :: r, hf, q =>
      have : ¬ (((a :: b :: c :: e :: r).length : Nat) : Int) = 3 := by simp only [List.length_cons]; omega
      simp only [this, decide_false, if_true, true_and, Bool.false_eq_true, if_false, Bool.and_true, Bool.and_false, Bool.true_and, Bool.false_and, Bool.not_true, Bool.not_false, Bool.or_true, Bool.or_false, Bool.true_or, Bool.false_or]
      simpa [isTriple] using q S (Ext.refl S)
    | [w, f, s], hf, q =>
      have hw : Fit S w := hf.parts w (by simp)
      have hff : Fit S f := hf.parts f (by simp)
      have hs : Fit S s := hf.parts s (by simp)
      have h2 := hf.two
      simp only [isTriple] at q
      simp only [List.length_cons, List.length_nil, Nat.reduceAdd, show ((3 : Nat) : Int) = 3 from rfl, decide_true, if_true, true_and, Bool.false_eq_true, if_false, Bool.and_true, Bool.and_false, Bool.true_and, Bool.false_and, Bool.not_true, Bool.not_false, Bool.or_true, Bool.or_false, Bool.true_or, Bool.false_or]
      refine ⟨w, rfl, ?_⟩
      simp only [kit_str w hw.nty]
      refine ⟨by cases w <;> first | trivial | exact absurd rfl (hw.nty _), ?_⟩
      rcases bb (isStr w) with h3 | h3
      · simp only [h3, tru_bl, if_true, true_and, Bool.false_eq_true, if_false, Bool.and_true, Bool.and_false, Bool.true_and, Bool.false_and, Bool.not_true, Bool.not_false, Bool.or_true, Bool.or_false, Bool.true_or, Bool.false_or]
        refine ⟨w, rfl, dIn_l hw hm2 hc ?_⟩
        rcases bb (cs.any fun c => eqc w c) with h4 | h4
        · have h5 : (ms.any fun c => eqc w c) = false := by
            rcases bb (ms.any fun c => eqc w c) with z | z
            · rw [dj3 w z] at h4; cases h4
            · exact z
          simp only [h4, h5, if_true, true_and, Bool.false_eq_true, if_false, Bool.and_true, Bool.and_false, Bool.true_and, Bool.false_and, Bool.not_true, Bool.not_false, Bool.or_true, Bool.or_false, Bool.true_or, Bool.false_or] at q ⊢
          refine ⟨f, rfl, by omega, f, 1, 3, rfl, hff, ?_⟩
          simp only [tru_bl]
          rcases bb (isNum f 1 3) with h6 | h6
          · simp only [h6, if_true, true_and, Bool.false_eq_true, if_false, Bool.and_true, Bool.and_false, Bool.true_and, Bool.false_and, Bool.not_true, Bool.not_false, Bool.or_true, Bool.or_false, Bool.true_or, Bool.false_or] at q ⊢
            refine ⟨s, rfl, ?_⟩
            simp only [kit_str s hs.nty]
            refine ⟨by cases s <;> first | trivial | exact absurd rfl (hs.nty _), ?_⟩
            rcases bb (isStr s) with h7 | h7
            · simp only [h7, if_true, true_and, Bool.false_eq_true, if_false, Bool.and_true, Bool.and_false, Bool.true_and, Bool.false_and, Bool.not_true, Bool.not_false, Bool.or_true, Bool.or_false, Bool.true_or, Bool.false_or]
              refine ⟨s, rfl, dIn_l (hs.ext (Ext.app S _)) (sto_last S _) wk_C ?_⟩
              exact q _ (Ext.app S _)
            · simp only [h7, if_true, true_and, Bool.false_eq_true, if_false, Bool.and_true, Bool.and_false, Bool.true_and, Bool.false_and, Bool.not_true, Bool.not_false, Bool.or_true, Bool.or_false, Bool.true_or, Bool.false_or]
              have : isC s = false := by simp [isC, sD, eqc_isStr h7]
              rw [this] at q
              exact q S (Ext.refl S)
          · simp only [h6, if_true, true_and, Bool.false_eq_true, if_false, Bool.and_true, Bool.and_false, Bool.true_and, Bool.false_and, Bool.not_true, Bool.not_false, Bool.or_true, Bool.or_false, Bool.true_or, Bool.false_or] at q ⊢
            exact q S (Ext.refl S)
        · simp only [h4, if_true, true_and, Bool.false_eq_true, if_false, Bool.and_true, Bool.and_false, Bool.true_and, Bool.false_and, Bool.not_true, Bool.not_false, Bool.or_true, Bool.or_false, Bool.true_or, Bool.false_or] at q ⊢
          refine ⟨w, rfl, dIn_l hw hm1 hm ?_⟩
          rcases bb (ms.any fun c => eqc w c) with h5 | h5
          · simp only [h5, if_true, true_and, Bool.false_eq_true, if_false, Bool.and_true, Bool.and_false, Bool.true_and, Bool.false_and, Bool.not_true, Bool.not_false, Bool.or_true, Bool.or_false, Bool.true_or, Bool.false_or] at q ⊢
            simp only [slc_tup, cut1, dItems, items, List.length_append, List.length_cons, List.length_nil, Nat.zero_add]
            have e1 : (S ++ [Ob.lst [f, s]])[S.length]? = some (.lst [f, s]) := sto_last S _
            refine dIn_ll (x := S.length) (n := S.length + 1 + 1 + 1) (p1 := S.length + 1) (p2 := S.length + 1 + 1) (fs := [f, s]) (as := [D.str "a", D.str "b"]) (bs := [D.str "b", D.str "a"]) (by simp only [List.append_assoc, List.cons_append, List.nil_append, Nat.add_assoc, Nat.reduceAdd, sto_at, sto_at0, List.getElem?_cons_zero, List.getElem?_cons_succ]) ?_ (by simp only [List.append_assoc, List.cons_append, List.nil_append, Nat.add_assoc, Nat.reduceAdd, sto_at, sto_at0, List.getElem?_cons_zero, List.getElem?_cons_succ]) (by simp only [List.append_assoc, List.cons_append, List.nil_append, Nat.add_assoc, Nat.reduceAdd, sto_at, sto_at0, List.getElem?_cons_zero, List.getElem?_cons_succ]) (by simp only [List.append_assoc, List.cons_append, List.nil_append, Nat.add_assoc, Nat.reduceAdd, sto_at, sto_at0, List.getElem?_cons_zero, List.getElem?_cons_succ]) wk_ab wk_ba ?_
            · have : Fit (S ++ [Ob.lst [f, s]]) (.ref S.length) := fit_new h2
              exact ((this.ext (Ext.app _ _)).ext (Ext.app _ _)).ext (Ext.app _ _)
            · exact q _ (((Ext.app S _).trans (Ext.app _ _)).trans ((Ext.app _ _).trans (Ext.app _ _)))
          · simp only [h5, if_true, true_and, Bool.false_eq_true, if_false, Bool.and_true, Bool.and_false, Bool.true_and, Bool.false_and, Bool.not_true, Bool.not_false, Bool.or_true, Bool.or_false, Bool.true_or, Bool.false_or] at q ⊢
            exact q S (Ext.refl S)
      · simp only [h3, tru_bl, if_true, true_and, Bool.false_eq_true, if_false, Bool.and_true, Bool.and_false, Bool.true_and, Bool.false_and, Bool.not_true, Bool.not_false, Bool.or_true, Bool.or_false, Bool.true_or, Bool.false_or]
        rw [any_nstr h3 dj1, any_nstr h3 dj2] at q
        simpa using q S (Ext.refl S)
  | _ => simpa [isTup, isTriple] using q S (Ext.refl S)
end K01

set_option Elab.async false
set_option linter.all false
set_option maxRecDepth 100000
set_option maxHeartbeats 1000000

namespace K01
open PySem PySem.Spec PyProof.Rows L2 DW

theorem fm_filter (f : D → Bool) (xs : List D) : (xs.filterMap fun d => if f d = true then some d else none) = xs.filter f := by
  induction xs with
  | nil => rfl
  | cons x r ih =>
    rw [List.filterMap_cons, List.filter_cons, ih]
    cases f x <;> rfl
/-- a comprehension that keeps some of a sequence's parts, by an answer that the test gives -/
theorem keep_lcp {fs : List FSp} {S : Sto} {ρ : En} {xs : List D} {i : Nat} {t : IT} {elt it : IE} {own : List Nat} {B : KQ} (f : D → Bool) (hl : xs.length ≤ 1000)
    (ht : ∀ d ∈ xs, ∀ S1 (R : KB), Ext S S1 → (∀ S2, Ext S1 S2 → R (f d) S2) → DW.wT fs t ((wipeD ρ own).set i (some d)) S1 R)
    (helt : ∀ d ∈ xs, ∀ S1, DW.wE fs elt ((wipeD ρ own).set i (some d)) S1 = fun R => R d S1)
    (hB : ∀ S', Ext S S' → S'[S.length]? = some (.lst (xs.filter f)) → B (.ref S.length) S') (he : DW.wE fs it ρ S = fun R => R (.tup xs) S) :
    DW.wE fs (.lcp own (.name i) (.val it) (.one t) elt) ρ S B := by
  simp only [DW.wE, DW.wI, he, iter_tup]
  refine cLoop_ext (fun d => if f d = true then some d else none) (by simp only [LIM]; omega) (fun _ _ => trivial) (fun d hd S1 ky kn e1 k => ?_) fun S' e1 e2 => hB S' e1 (by rw [e2, fm_filter])
  simp only [DW.wG, DW.wTs]
  refine ht d hd S1 _ e1 fun S2 e2 => ?_
  have q := k S2 e2
  rcases bb (f d) with h | h
  · simp only [h, if_true, helt d hd] at q ⊢
    exact q
  · simp only [h, Bool.false_eq_true, if_false] at q ⊢
    exact q
theorem filter_empty (f : D → Bool) (xs : List D) : (xs.filter fun c => !f c).isEmpty = xs.all f := by
  induction xs with
  | nil => rfl
  | cons x r ih =>
    rw [List.filter_cons, List.all_cons]
    cases h : f x
    · simp
    · simpa using ih
theorem ob__law_is_house (n : Nat) (ds : List D) (S : Sto) (Q : KQ) (h : lv (n + 1) 2 spLHouse ds S Q) : wB (fsN n) ir__law_is_house (defEnds Q) (startD C__law_is_house.N ds) S := by
  obtain ⟨hl, d, rfl, hf, q⟩ := h
  have hty := hf.nty
  simp only [DW.wG, DW.wGs, gsLen, List.set_cons_succ, List.set_cons_zero, wB, wS, DW.wT, DW.wTs, DW.wE, DW.wA, DW.wO, DW.wI, List.getElem?_cons_succ, List.getElem?_cons_zero, cmp_eq, cmp_ne, cmp_in, cmp_nin, cmp_lt, cmp_le, cmp_gt, cmp_ge, tru_non, tru_bl, tru_int, tru_tup, op_addi, op_subi, op_muli, op_divi, op_modi, op_powi, op_addt, op_rept, len_tup, len_rol, idx_tup, idx_rol, slc_tup, iter_tup, iter_rol, eqc_int, LIM, Nat.reduceLeDiff, dBlt, dIsi, dInt1, defEnds, startD, List.map_cons, List.map_nil, List.length_cons, List.length_nil, List.replicate_succ, List.replicate_zero, List.cons_append, List.nil_append, Nat.reduceAdd, Nat.reduceSub, isRef, Nat.zero_add, and_true, true_and, if_true, Bool.false_eq_true, if_false, ir__law_is_house, kit_tuple d hty]
  cases d with
  | ty n => exact absurd rfl (hty n)
  | tup xs =>
    simp only [isTup, len_tup, dEq_iff (fit_int S _) (wk_int 4), eqc_int, if_true, true_and, Bool.false_eq_true, if_false, Bool.and_true, Bool.and_false, Bool.true_and, Bool.false_and, Bool.not_true, Bool.not_false, Bool.or_true, Bool.or_false, Bool.true_or, Bool.false_or]
    by_cases h4 : xs.length = 4
    · have h4' : ((xs.length : Nat) : Int) = 4 := by omega
      simp only [h4', decide_true, if_true, true_and, Bool.false_eq_true, if_false, Bool.and_true, Bool.and_false, Bool.true_and, Bool.false_and, Bool.not_true, Bool.not_false, Bool.or_true, Bool.or_false, Bool.true_or, Bool.false_or]
      unfold ir__law_is_house_l0
      refine keep_lcp (xs := xs) (fun c => !isNum c 0 big) (by omega) (fun d hd S1 R e1 k => ?_) (fun d hd S1 => by funext R; rfl) (fun S' e1 e2 => ?_) (by funext R; rfl)
      · simp only [DW.wG, DW.wGs, gsLen, List.set_cons_succ, List.set_cons_zero, wB, wS, DW.wT, DW.wTs, DW.wE, DW.wA, DW.wO, DW.wI, List.getElem?_cons_succ, List.getElem?_cons_zero, cmp_eq, cmp_ne, cmp_in, cmp_nin, cmp_lt, cmp_le, cmp_gt, cmp_ge, tru_non, tru_bl, tru_int, tru_tup, op_addi, op_subi, op_muli, op_divi, op_modi, op_powi, op_addt, op_rept, len_tup, len_rol, idx_tup, idx_rol, slc_tup, iter_tup, iter_rol, eqc_int, LIM, Nat.reduceLeDiff, dBlt, dIsi, dInt1, defEnds, startD, List.map_cons, List.map_nil, List.length_cons, List.length_nil, List.replicate_succ, List.replicate_zero, List.cons_append, List.nil_append, Nat.reduceAdd, Nat.reduceSub, isRef, Nat.zero_add, and_true, true_and, if_true, Bool.false_eq_true, if_false, wipeD, f11]
        refine ⟨⟨by decide, by decide, by decide⟩, by omega, d, 0, 10 ^ (30 : Int).toNat, rfl, (hf.parts d hd).ext e1, ?_⟩
        simp only [tru_bl]
        exact k S1 (Ext.refl S1)
      · refine dEq_l0 (S := S' ++ [Ob.lst []]) (Ext.app S' _ _ _ e2) ?_ (sto_last S' _) ?_
        · exact (fit_list (n := S.length) (hf.ext e1) (fun d hd => (List.mem_filter.mp hd).1) (List.length_filter_le _ _) e2).ext (Ext.app S' _)
        · rw [filter_empty]
          have := q (S' ++ [Ob.lst []]) (e1.trans (Ext.app S' _))
          simp only [isHouse, h4, decide_true, Bool.true_and] at this
          exact this
    · have h4' : ¬ ((xs.length : Nat) : Int) = 4 := by omega
      simp only [h4', decide_false, if_true, true_and, Bool.false_eq_true, if_false, Bool.and_true, Bool.and_false, Bool.true_and, Bool.false_and, Bool.not_true, Bool.not_false, Bool.or_true, Bool.or_false, Bool.true_or, Bool.false_or]
      have := q S (Ext.refl S)
      simp only [isHouse, h4, decide_false, Bool.false_and] at this
      exact this
  | _ => simpa [isTup, isHouse] using q S (Ext.refl S)

theorem wk_nil : wk (.tup []) = true := by decide +kernel
theorem wk_5 : wk (.tup [.str "not", .str "and", .str "or", .str "if", .str "other"]) = true := by decide +kernel
theorem any_5 (w : D) : ([D.str "not", D.str "and", D.str "or", D.str "if", D.str "other"].any fun c => eqc w c) = (eqc w (sD "not") || isP w) := rfl
theorem eqc_nil_cons (w : D) (r : List D) : eqc (.tup (w :: r)) (.tup []) = false := by simp [eqc, eqcs]
theorem eqc_nil_nil : eqc (.tup []) (.tup []) = true := by simp [eqc, eqcs]
theorem disj_f : Disj w3 wlj := by
  refine ⟨by simp [w3, sD, isStr], by simp [wlj, sD, isStr], fun w h => ?_⟩
  cases w with
  | str x =>
    simp only [w3, wlj, sD, List.any_cons, List.any_nil, eqc, Bool.or_eq_true, beq_iff_eq, Bool.or_false] at h ⊢
    rcases h with rfl | rfl | rfl <;> decide +kernel
  | _ => simp [w3, sD, eqc] at h
theorem disj_s : Disj w4 wh := by
  refine ⟨by simp [w4, sD, isStr], by simp [wh, sD, isStr], fun w h => ?_⟩
  cases w with
  | str x =>
    simp only [w4, wh, sD, List.any_cons, List.any_nil, eqc, Bool.or_eq_true, beq_iff_eq, Bool.or_false] at h ⊢
    rcases h with rfl | rfl | rfl | rfl <;> decide +kernel
  | _ => simp [w4, sD, eqc] at h
theorem triple_nstr {w : D} {r : List D} {ms cs : List D} (hw : isStr w = false) (d : Disj ms cs) : isTriple (.tup (w :: r)) ms cs = false := by
  unfold isTriple
  split
  · rename_i a b c e
    cases e
    rw [any_nstr hw d.1, any_nstr hw d.2.1]
    rfl
  · rfl
theorem not_not_P {w : D} (h : eqc w (sD "not") = true) : isStr w = true := by
  cases w <;> first | rfl | (simp [sD, eqc] at h)
theorem P_str {w : D} (h : isP w = true) : isStr w = true := by
  cases w <;> first | rfl | (simp [isP, sD, eqc] at h)
theorem parts_f (n j : Nat) (w : D) (r : List D) (S S1 : Sto) (B : KQ) (hl : j + 1 + 3 ≤ n + 1) (hf : Fit S (.tup (w :: r))) (e1 : Ext S S1) (hr : r.length ≤ 1000) (hB : ∀ S2, Ext S1 S2 → B (.bl (r.all (isNest j))) S2) :
    DW.wE (fsN n) ir__law_is_formula_l0 [some (.tup (w :: r)), some (.int ((j + 1 : Nat) : Int)), none] S1 fun x S2 => dEq x (D.ref S2.length) (S2 ++ [Ob.lst []]) fun k S3 => B (.bl k) S3 := by
  have hj1 : ((j + 1 : Nat) : Int) - 1 = (j : Int) := by omega
  unfold ir__law_is_formula_l0
  refine keep_lcp (xs := r) (fun c => !isNest j c) hr (fun d hd S2 R e2 k => ?_) (fun d hd S1 => by funext R; rfl) (fun S' e2 e3 => ?_) (by funext R; simp only [DW.wE, DW.wO, List.getElem?_cons_zero, slc_tup, cut1])
  · simp only [DW.wG, DW.wGs, gsLen, List.set_cons_succ, List.set_cons_zero, wB, wS, DW.wT, DW.wTs, DW.wE, DW.wA, DW.wO, DW.wI, List.getElem?_cons_succ, List.getElem?_cons_zero, cmp_eq, cmp_ne, cmp_in, cmp_nin, cmp_lt, cmp_le, cmp_gt, cmp_ge, tru_non, tru_bl, tru_int, tru_tup, op_addi, op_subi, op_muli, op_divi, op_modi, op_powi, op_addt, op_rept, len_tup, len_rol, idx_tup, idx_rol, slc_tup, iter_tup, iter_rol, eqc_int, LIM, Nat.reduceLeDiff, dBlt, dIsi, dInt1, defEnds, startD, List.map_cons, List.map_nil, List.length_cons, List.length_nil, List.replicate_succ, List.replicate_zero, List.cons_append, List.nil_append, Nat.reduceAdd, Nat.reduceSub, isRef, Nat.zero_add, and_true, true_and, if_true, Bool.false_eq_true, if_false, wipeD, f20, hj1]
    refine ⟨d, j, rfl, by omega, (hf.parts d (by simp [hd])).ext (e1.trans e2), fun S3 e3 => ?_⟩
    simp only [tru_bl]
    exact k S3 e3
  · have hrf : Fit S1 (.tup r) := by
      obtain ⟨L, k, hk, h⟩ := hf
      refine ⟨L, k, hk, okd_ext e1 ?_⟩
      cases k with
      | zero => cases h
      | succ k =>
        simp only [okd, List.length_cons, Bool.and_eq_true, decide_eq_true_eq, List.all_cons] at h ⊢
        exact ⟨by omega, h.2.2⟩
    refine dEq_l0 (S := S' ++ [Ob.lst []]) (Ext.app S' _ _ _ e3) ?_ (sto_last S' _) ?_
    · exact (fit_list (n := S1.length) (hrf.ext e2) (fun d hd => (List.mem_filter.mp hd).1) (List.length_filter_le _ _) e3).ext (Ext.app S' _)
    · rw [filter_empty]
      exact hB _ (e2.trans (Ext.app S' _))
set_option maxHeartbeats 1000000 in
theorem ob__law_is_formula (n : Nat) (ds : List D) (S : Sto) (Q : KQ) (h : spLFormula (n + 1) ds S Q) : wB (fsN n) ir__law_is_formula (defEnds Q) (startD C__law_is_formula.N ds) S := by
  obtain ⟨d, j, rfl, hl, hf, q⟩ := h
  have hty := hf.nty
  simp only [DW.wG, DW.wGs, gsLen, List.set_cons_succ, List.set_cons_zero, wB, wS, DW.wT, DW.wTs, DW.wE, DW.wA, DW.wO, DW.wI, List.getElem?_cons_succ, List.getElem?_cons_zero, cmp_eq, cmp_ne, cmp_in, cmp_nin, cmp_lt, cmp_le, cmp_gt, cmp_ge, tru_non, tru_bl, tru_int, tru_tup, op_addi, op_subi, op_muli, op_divi, op_modi, op_powi, op_addt, op_rept, len_tup, len_rol, idx_tup, idx_rol, slc_tup, iter_tup, iter_rol, eqc_int, LIM, Nat.reduceLeDiff, dBlt, dIsi, dInt1, defEnds, startD, List.map_cons, List.map_nil, List.length_cons, List.length_nil, List.replicate_succ, List.replicate_zero, List.cons_append, List.nil_append, Nat.reduceAdd, Nat.reduceSub, isRef, Nat.zero_add, and_true, true_and, if_true, Bool.false_eq_true, if_false, ir__law_is_formula, kit_tuple d hty, f15]
  cases d with
  | ty n => exact absurd rfl (hty n)
  | tup xs =>
    simp only [isTup, dEq_iff hf wk_nil, idx_tup, if_true, true_and, Bool.false_eq_true, if_false, Bool.and_true, Bool.and_false, Bool.true_and, Bool.false_and, Bool.not_true, Bool.not_false, Bool.or_true, Bool.or_false, Bool.true_or, Bool.false_or]
    cases xs with
    | nil =>
      simp only [eqc_nil_nil, if_true, true_and, Bool.false_eq_true, if_false, Bool.and_true, Bool.and_false, Bool.true_and, Bool.false_and, Bool.not_true, Bool.not_false, Bool.or_true, Bool.or_false, Bool.true_or, Bool.false_or]
      cases j <;> simpa [isNest] using q S (Ext.refl S)
    | cons w r =>
      have hw : Fit S w := hf.parts w (by simp)
      simp only [eqc_nil_cons, if_true, true_and, Bool.false_eq_true, if_false, Bool.and_true, Bool.and_false, Bool.true_and, Bool.false_and, Bool.not_true, Bool.not_false, Bool.or_true, Bool.or_false, Bool.true_or, Bool.false_or]
      refine ⟨w, at0 w r, ?_⟩
      simp only [kit_str w hw.nty]
      refine ⟨by cases w <;> first | trivial | exact absurd rfl (hw.nty _), ?_⟩
      rcases bb (isStr w) with h1 | h1
      · simp only [h1, dEq_iff (fit_int S _) (wk_int 0), eqc_int, if_true, true_and, Bool.false_eq_true, if_false, Bool.and_true, Bool.and_false, Bool.true_and, Bool.false_and, Bool.not_true, Bool.not_false, Bool.or_true, Bool.or_false, Bool.true_or, Bool.false_or]
        cases j with
        | zero =>
          simp only [show ((0 : Nat) : Int) = 0 from rfl, decide_true, if_true]
          simpa [isNest] using q S (Ext.refl S)
        | succ j =>
          have hj : ¬ ((j + 1 : Nat) : Int) = 0 := by omega
          have hj1 : ((j + 1 : Nat) : Int) - 1 = (j : Int) := by omega
          simp only [hj, decide_false, if_true, true_and, Bool.false_eq_true, if_false, Bool.and_true, Bool.and_false, Bool.true_and, Bool.false_and, Bool.not_true, Bool.not_false, Bool.or_true, Bool.or_false, Bool.true_or, Bool.false_or]
          refine ⟨w, at0 w r, ?_⟩
          have hS1 := Ext.app S [Ob.lst [D.str "not", D.str "and", D.str "or", D.str "if", D.str "other"]]
          refine dIn_l (hw.ext hS1) (sto_last S _) wk_5 ?_
          simp only [any_5]
          have parts := fun S1 (B : KQ) e1 hr hB => parts_f n j w r S S1 B hl hf e1 hr hB
          have neq : ∀ (m : Int) (B : KB), B (decide (((w :: r).length : Int) = m)) (S ++ [Ob.lst [D.str "not", D.str "and", D.str "or", D.str "if", D.str "other"]]) →
              dEq (.int ((w :: r).length : Int)) (.int m) (S ++ [Ob.lst [D.str "not", D.str "and", D.str "or", D.str "if", D.str "other"]]) B := fun m B hB => by
            rw [dEq_iff (fit_int _ _) (wk_int m), eqc_int]; exact hB
          simp only [isNest] at q
          rcases bb (eqc w (sD "not")) with h2 | h2
          · simp only [h2, len_tup, if_true, true_and, Bool.false_eq_true, if_false, Bool.and_true, Bool.and_false, Bool.true_and, Bool.false_and, Bool.not_true, Bool.not_false, Bool.or_true, Bool.or_false, Bool.true_or, Bool.false_or] at q ⊢
            refine ⟨w, at0 w r, ?_⟩
            rw [dEq_iff (hw.ext hS1) wk_not]
            simp only [h2, if_true]
            refine neq 2 _ ?_
            match r, hf, q, parts with
            | [f], hf, q, parts =>
              simp only [List.length_cons, List.length_nil, show ((0 + 1 + 1 : Nat) : Int) = 2 from rfl, decide_true, if_true, true_and, Bool.false_eq_true, if_false, Bool.and_true, Bool.and_false, Bool.true_and, Bool.false_and, Bool.not_true, Bool.not_false, Bool.or_true, Bool.or_false, Bool.true_or, Bool.false_or]
              refine parts _ _ hS1 (by simp only [List.length_cons, List.length_nil]; omega) fun S2 e2 => ?_
              have := q S2 (hS1.trans e2)
              rw [List.all_cons, List.all_nil, Bool.and_true]
              exact this
            | [], hf, q, parts =>
              simp only [List.length_cons, List.length_nil, show ¬ ((0 + 1 : Nat) : Int) = 2 from by decide, decide_false, if_true, true_and, Bool.false_eq_true, if_false, Bool.and_true, Bool.and_false, Bool.true_and, Bool.false_and, Bool.not_true, Bool.not_false, Bool.or_true, Bool.or_false, Bool.true_or, Bool.false_or]
              exact q _ hS1
            | a :: b :: r, hf, q, parts =>
              have : ¬ (((w :: a :: b :: r).length : Nat) : Int) = 2 := by simp only [List.length_cons]; omega
              simp only [this, decide_false, if_true, true_and, Bool.false_eq_true, if_false, Bool.and_true, Bool.and_false, Bool.true_and, Bool.false_and, Bool.not_true, Bool.not_false, Bool.or_true, Bool.or_false, Bool.true_or, Bool.false_or]
              exact q _ hS1
          · simp only [h2, if_true, true_and, Bool.false_eq_true, if_false, Bool.and_true, Bool.and_false, Bool.true_and, Bool.false_and, Bool.not_true, Bool.not_false, Bool.or_true, Bool.or_false, Bool.true_or, Bool.false_or] at q ⊢
            rcases bb (isP w) with h3 | h3
            · simp only [h3, len_tup, if_true, true_and, Bool.false_eq_true, if_false, Bool.and_true, Bool.and_false, Bool.true_and, Bool.false_and, Bool.not_true, Bool.not_false, Bool.or_true, Bool.or_false, Bool.true_or, Bool.false_or] at q ⊢
              refine ⟨w, at0 w r, ?_⟩
              rw [dEq_iff (hw.ext hS1) wk_not]
              simp only [h2, Bool.false_eq_true, if_false]
              refine neq 3 _ ?_
              match r, hf, q, parts with
              | [f, g], hf, q, parts =>
                simp only [List.length_cons, List.length_nil, show ((0 + 1 + 1 + 1 : Nat) : Int) = 3 from rfl, decide_true, if_true, true_and, Bool.false_eq_true, if_false, Bool.and_true, Bool.and_false, Bool.true_and, Bool.false_and, Bool.not_true, Bool.not_false, Bool.or_true, Bool.or_false, Bool.true_or, Bool.false_or]
                refine parts _ _ hS1 (by simp only [List.length_cons, List.length_nil]; omega) fun S2 e2 => ?_
                have := q S2 (hS1.trans e2)
                rw [List.all_cons, List.all_cons, List.all_nil, Bool.and_true]
                exact this
              | [], hf, q, parts =>
                simp only [List.length_cons, List.length_nil, show ¬ ((0 + 1 : Nat) : Int) = 3 from by decide, decide_false, if_true, true_and, Bool.false_eq_true, if_false, Bool.and_true, Bool.and_false, Bool.true_and, Bool.false_and, Bool.not_true, Bool.not_false, Bool.or_true, Bool.or_false, Bool.true_or, Bool.false_or]
                exact q _ hS1
              | [a], hf, q, parts =>
                simp only [List.length_cons, List.length_nil, show ¬ ((0 + 1 + 1 : Nat) : Int) = 3 from by decide, decide_false, if_true, true_and, Bool.false_eq_true, if_false, Bool.and_true, Bool.and_false, Bool.true_and, Bool.false_and, Bool.not_true, Bool.not_false, Bool.or_true, Bool.or_false, Bool.true_or, Bool.false_or]
                exact q _ hS1
              | a :: b :: c :: r, hf, q, parts =>
                have : ¬ (((w :: a :: b :: c :: r).length : Nat) : Int) = 3 := by simp only [List.length_cons]; omega
                simp only [this, decide_false, if_true, true_and, Bool.false_eq_true, if_false, Bool.and_true, Bool.and_false, Bool.true_and, Bool.false_and, Bool.not_true, Bool.not_false, Bool.or_true, Bool.or_false, Bool.true_or, Bool.false_or]
                exact q _ hS1
            · simp only [h3, if_true, true_and, Bool.false_eq_true, if_false, Bool.and_true, Bool.and_false, Bool.true_and, Bool.false_and, Bool.not_true, Bool.not_false, Bool.or_true, Bool.or_false, Bool.true_or, Bool.false_or] at q ⊢
              have e2 := hS1.trans ((Ext.app _ [Ob.lst [D.str "all", D.str "some", D.str "no"]]).trans (Ext.app _ [Ob.lst [D.str "least", D.str "just"]]))
              refine ⟨by omega, _, _, _, w3, wlj, rfl, hf.ext e2, ?_, sto_last _ _, wk_w3, wk_lj, disj_f, fun S' e3 => q S' (e2.trans e3)⟩
              simp only [List.append_assoc, List.cons_append, List.nil_append, Nat.add_assoc, Nat.reduceAdd, sto_at, sto_at0, List.getElem?_cons_zero, List.getElem?_cons_succ, List.length_append, List.length_cons, List.length_nil]
      · simp only [h1, if_true, true_and, Bool.false_eq_true, if_false, Bool.and_true, Bool.and_false, Bool.true_and, Bool.false_and, Bool.not_true, Bool.not_false, Bool.or_true, Bool.or_false, Bool.true_or, Bool.false_or]
        cases j with
        | zero => simpa [isNest] using q S (Ext.refl S)
        | succ j =>
          simp only [isNest] at q
          have h2 : eqc w (sD "not") = false := by
            rcases bb (eqc w (sD "not")) with z | z
            · rw [not_not_P z] at h1; cases h1
            · exact z
          have h3 : isP w = false := by
            rcases bb (isP w) with z | z
            · rw [P_str z] at h1; cases h1
            · exact z
          simp only [h2, h3, triple_nstr h1 disj_f, if_true, true_and, Bool.false_eq_true, if_false, Bool.and_true, Bool.and_false, Bool.true_and, Bool.false_and, Bool.not_true, Bool.not_false, Bool.or_true, Bool.or_false, Bool.true_or, Bool.false_or] at q
          exact q S (Ext.refl S)
  | _ => cases j <;> simpa [isTup, isNest] using q S (Ext.refl S)
end K01

set_option Elab.async false
set_option linter.all false
set_option maxRecDepth 100000
set_option maxHeartbeats 1000000

namespace K01
open PySem PySem.Spec PyProof.Rows L2 DW

theorem wk_jo : wk (.tup (jts ++ [.str "not", .str "(", .str ")"])) = true := by decide +kernel
theorem any_jo (d : D) : ((jts ++ [D.str "not", D.str "(", D.str ")"]).any fun c => eqc d c) = (isJ d || isO d) := by
  rw [List.any_append]; rfl
theorem sign_tup {d : D} (h : isStr d = false) (h2 : isSign d = true) : isTup d = true := by
  unfold isSign at h2
  rw [h] at h2
  simp only [Bool.false_eq_true, if_false] at h2
  unfold isTriple at h2
  split at h2
  · rfl
  · cases h2
theorem not_body {n : Nat} {E : DEnds} {S1 : Sto} {v : Option D} {c : Int} {d : D} (hl : 2 ≤ n) (hf : Fit S1 d) (hgo : isSign d = true → ∀ S', Ext S1 S' → E.nx [v, some (.int (if isTup d = true then c + 1 else c)), some d] S') (hno : isSign d = false → ∀ S', Ext S1 S' → E.rt (.bl false) S') :
    wB (fsN n) ir__law_is_notice_b0 E [v, some (.int c), some d] S1 := by
  have hty : (match d with | .ty _ => False | _ => True) := by cases d <;> first | trivial | exact absurd rfl (hf.nty _)
  simp only [DW.wG, DW.wGs, gsLen, List.set_cons_succ, List.set_cons_zero, wB, wS, DW.wT, DW.wTs, DW.wE, DW.wA, DW.wO, DW.wI, List.getElem?_cons_succ, List.getElem?_cons_zero, cmp_eq, cmp_ne, cmp_in, cmp_nin, cmp_lt, cmp_le, cmp_gt, cmp_ge, tru_non, tru_bl, tru_int, tru_tup, op_addi, op_subi, op_muli, op_divi, op_modi, op_powi, op_addt, op_rept, len_tup, len_rol, idx_tup, idx_rol, slc_tup, iter_tup, iter_rol, eqc_int, LIM, Nat.reduceLeDiff, dBlt, dIsi, dInt1, defEnds, startD, List.map_cons, List.map_nil, List.length_cons, List.length_nil, List.replicate_succ, List.replicate_zero, List.cons_append, List.nil_append, Nat.reduceAdd, Nat.reduceSub, isRef, Nat.zero_add, and_true, true_and, if_true, Bool.false_eq_true, if_false, ir__law_is_notice_b0, kit_str d hf.nty, f17, f15]
  rcases bb (isStr d) with h1 | h1
  · simp only [h1, if_true, true_and, Bool.false_eq_true, if_false, Bool.and_true, Bool.and_false, Bool.true_and, Bool.false_and, Bool.not_true, Bool.not_false, Bool.or_true, Bool.or_false, Bool.true_or, Bool.false_or]
    refine ⟨(by cases d <;> first | trivial | exact absurd rfl (hf.nty _)), by omega, rfl, ?_⟩
    simp only [List.length_append, List.length_cons, List.length_nil, Nat.zero_add]
    rw [op_addl (m := S1.length) (n := S1.length + 1) (xs := jts) (ys := [.str "not", .str "(", .str ")"]) (by simp only [List.append_assoc, List.cons_append, List.nil_append, Nat.add_assoc, Nat.reduceAdd, sto_at, sto_at0, List.getElem?_cons_zero, List.getElem?_cons_succ]) (by simp only [List.append_assoc, List.cons_append, List.nil_append, Nat.add_assoc, Nat.reduceAdd, sto_at, sto_at0, List.getElem?_cons_zero, List.getElem?_cons_succ])]
    refine ⟨by simp only [jts, List.length_cons, List.length_nil, LIM]; omega, dIn_l (cs := jts ++ [.str "not", .str "(", .str ")"]) ?_ (sto_last _ _) wk_jo ?_⟩
    · exact hf.ext (((Ext.app S1 _).trans (Ext.app _ _)).trans (Ext.app _ _))
    · rw [any_jo]
      have e : isSign d = (isJ d || isO d) := by unfold isSign; rw [if_pos h1]
      have ht : isTup d = false := by cases d <;> first | rfl | cases h1
      rw [← e]
      simp only [ht, Bool.false_eq_true, if_false] at hgo
      rcases bb (isSign d) with h2 | h2
      · simp only [h2, if_true, true_and, Bool.false_eq_true, if_false, Bool.and_true, Bool.and_false, Bool.true_and, Bool.false_and, Bool.not_true, Bool.not_false, Bool.or_true, Bool.or_false, Bool.true_or, Bool.false_or]
        exact hgo h2 _ (((Ext.app S1 _).trans (Ext.app _ _)).trans (Ext.app _ _))
      · simp only [h2, if_true, true_and, Bool.false_eq_true, if_false, Bool.and_true, Bool.and_false, Bool.true_and, Bool.false_and, Bool.not_true, Bool.not_false, Bool.or_true, Bool.or_false, Bool.true_or, Bool.false_or]
        exact hno h2 _ (((Ext.app S1 _).trans (Ext.app _ _)).trans (Ext.app _ _))
  · simp only [h1, if_true, true_and, Bool.false_eq_true, if_false, Bool.and_true, Bool.and_false, Bool.true_and, Bool.false_and, Bool.not_true, Bool.not_false, Bool.or_true, Bool.or_false, Bool.true_or, Bool.false_or]
    have e : isSign d = isTriple d w4 wh := by unfold isSign; rw [if_neg (by rw [h1]; decide)]
    have e2 := (Ext.app S1 [Ob.lst [D.str "all", D.str "some", D.str "no", D.str "allnot"]]).trans (Ext.app _ [Ob.lst [D.str "has"]])
    refine ⟨(by cases d <;> first | trivial | exact absurd rfl (hf.nty _)), by omega, d, _, _, w4, wh, rfl, hf.ext e2, ?_, sto_last _ _, wk_w4, wk_h, disj_s, fun S' e3 => ?_⟩
    · simp only [List.append_assoc, List.cons_append, List.nil_append, Nat.add_assoc, Nat.reduceAdd, sto_at, sto_at0, List.getElem?_cons_zero, List.getElem?_cons_succ]
    · simp only [tru_bl]
      rw [← e]
      rcases bb (isSign d) with h2 | h2
      · have ht := sign_tup h1 h2
        simp only [h2, if_true, true_and, Bool.false_eq_true, if_false, Bool.and_true, Bool.and_false, Bool.true_and, Bool.false_and, Bool.not_true, Bool.not_false, Bool.or_true, Bool.or_false, Bool.true_or, Bool.false_or]
        simp only [ht, if_true] at hgo
        exact hgo h2 S' (e2.trans e3)
      · simp only [h2, if_true, true_and, Bool.false_eq_true, if_false, Bool.and_true, Bool.and_false, Bool.true_and, Bool.false_and, Bool.not_true, Bool.not_false, Bool.or_true, Bool.or_false, Bool.true_or, Bool.false_or]
        exact hno h2 S' (e2.trans e3)
theorem not_loop {n : Nat} {E : DEnds} {S : Sto} {v : Option D} (hl : 2 ≤ n) : ∀ (l : List D) (c : Int) (x : Option D) (S1 : Sto), Ext S S1 → (∀ d ∈ l, Fit S d) →
    (l.all isSign = true → ∀ x' S', Ext S S' → E.nx [v, some (.int (c + (l.filter isTup).length)), x'] S') → (l.all isSign = false → ∀ S', Ext S S' → E.rt (.bl false) S') →
    fLoop (fun _ => True) (fun d ρ' S' k => DW.wG (fsN n) (.name 2) d ρ' S' k) (fun E' ρ' S' => wB (fsN n) ir__law_is_notice_b0 E' ρ' S') E l [v, some (.int c), x] S1
  | [], c, x, S1, e1, hf, hgo, hno => ⟨trivial, by
      have := hgo rfl x S1 e1
      simpa using this⟩
  | d :: r, c, x, S1, e1, hf, hgo, hno => by
    refine ⟨trivial, ?_⟩
    show wB (fsN n) ir__law_is_notice_b0 _ [v, some (.int c), some d] S1
    refine not_body hl ((hf d List.mem_cons_self).ext e1) (fun h1 S' e2 => ?_) fun h1 S' e2 => ?_
    · refine not_loop hl r _ (some d) S' (e1.trans e2) (fun z hz => hf z (List.mem_cons_of_mem _ hz)) (fun h2 x' S'' e3 => ?_) fun h2 S'' e3 => ?_
      · have := hgo (by rw [List.all_cons, h1, h2]; rfl) x' S'' e3
        rw [List.filter_cons] at this
        rcases bb (isTup d) with h3 | h3
        · simp only [h3, if_true, List.length_cons] at this ⊢
          have e : c + 1 + ((r.filter isTup).length : Int) = c + (((r.filter isTup).length + 1 : Nat) : Int) := by omega
          rw [e]
          exact this
        · simp only [h3, Bool.false_eq_true, if_false] at this ⊢
          exact this
      · exact hno (by rw [List.all_cons, h2, Bool.and_false]) S'' e3
    · exact hno (by rw [List.all_cons, h1, Bool.false_and]) S' (e1.trans e2)
theorem ob__law_is_notice (n : Nat) (ds : List D) (S : Sto) (Q : KQ) (h : lv (n + 1) 3 spLNotice ds S Q) : wB (fsN n) ir__law_is_notice (defEnds Q) (startD C__law_is_notice.N ds) S := by
  obtain ⟨hl, d, rfl, hf, q⟩ := h
  have hty := hf.nty
  simp only [DW.wG, DW.wGs, gsLen, List.set_cons_succ, List.set_cons_zero, wB, wS, DW.wT, DW.wTs, DW.wE, DW.wA, DW.wO, DW.wI, List.getElem?_cons_succ, List.getElem?_cons_zero, cmp_eq, cmp_ne, cmp_in, cmp_nin, cmp_lt, cmp_le, cmp_gt, cmp_ge, tru_non, tru_bl, tru_int, tru_tup, op_addi, op_subi, op_muli, op_divi, op_modi, op_powi, op_addt, op_rept, len_tup, len_rol, idx_tup, idx_rol, slc_tup, iter_tup, iter_rol, eqc_int, LIM, Nat.reduceLeDiff, dBlt, dIsi, dInt1, defEnds, startD, List.map_cons, List.map_nil, List.length_cons, List.length_nil, List.replicate_succ, List.replicate_zero, List.cons_append, List.nil_append, Nat.reduceAdd, Nat.reduceSub, isRef, Nat.zero_add, and_true, true_and, if_true, Bool.false_eq_true, if_false, ir__law_is_notice, kit_tuple d hty]
  cases d with
  | ty n => exact absurd rfl (hty n)
  | tup xs =>
    simp only [isTup, len_tup, if_true, true_and, Bool.false_eq_true, if_false, Bool.and_true, Bool.and_false, Bool.true_and, Bool.false_and, Bool.not_true, Bool.not_false, Bool.or_true, Bool.or_false, Bool.true_or, Bool.false_or, iter_tup, cmp_le]
    have e1 : decide ((1 : Int) ≤ xs.length) = decide (1 ≤ xs.length) := by rw [Bool.eq_iff_iff]; simp; omega
    have e2 : decide ((xs.length : Int) ≤ 16) = decide (xs.length ≤ 16) := by rw [Bool.eq_iff_iff]; simp; omega
    simp only [e1, e2]
    unfold isNotice at q
    rcases bb (decide (1 ≤ xs.length)) with h1 | h1
    · rcases bb (decide (xs.length ≤ 16)) with h2 | h2
      · simp only [h1, h2, if_true, true_and, Bool.false_eq_true, if_false, Bool.and_true, Bool.and_false, Bool.true_and, Bool.false_and, Bool.not_true, Bool.not_false, Bool.or_true, Bool.or_false, Bool.true_or, Bool.false_or] at q ⊢
        refine not_loop (by omega) xs 0 none S (Ext.refl S) (hf.parts) (fun h3 x' S' e3 => ?_) fun h3 S' e3 => ?_
        · simp only [DW.wG, DW.wGs, gsLen, List.set_cons_succ, List.set_cons_zero, wB, wS, DW.wT, DW.wTs, DW.wE, DW.wA, DW.wO, DW.wI, List.getElem?_cons_succ, List.getElem?_cons_zero, cmp_eq, cmp_ne, cmp_in, cmp_nin, cmp_lt, cmp_le, cmp_gt, cmp_ge, tru_non, tru_bl, tru_int, tru_tup, op_addi, op_subi, op_muli, op_divi, op_modi, op_powi, op_addt, op_rept, len_tup, len_rol, idx_tup, idx_rol, slc_tup, iter_tup, iter_rol, eqc_int, LIM, Nat.reduceLeDiff, dBlt, dIsi, dInt1, defEnds, startD, List.map_cons, List.map_nil, List.length_cons, List.length_nil, List.replicate_succ, List.replicate_zero, List.cons_append, List.nil_append, Nat.reduceAdd, Nat.reduceSub, isRef, Nat.zero_add, and_true, true_and, if_true, Bool.false_eq_true, if_false]
          simp only [h3, if_true, true_and, Bool.false_eq_true, if_false, Bool.and_true, Bool.and_false, Bool.true_and, Bool.false_and, Bool.not_true, Bool.not_false, Bool.or_true, Bool.or_false, Bool.true_or, Bool.false_or] at q
          have e4 : decide ((0 : Int) + ((xs.filter isTup).length : Int) ≤ 4) = decide ((xs.filter isTup).length ≤ 4) := by rw [Bool.eq_iff_iff]; simp; omega
          simp only [Int.zero_add] at e4 ⊢
          rw [e4]
          rcases bb (decide ((xs.filter isTup).length ≤ 4)) with h4 | h4
          · simp only [h4, if_true, true_and, Bool.false_eq_true, if_false, Bool.and_true, Bool.and_false, Bool.true_and, Bool.false_and, Bool.not_true, Bool.not_false, Bool.or_true, Bool.or_false, Bool.true_or, Bool.false_or, f16] at q ⊢
            exact ⟨by omega, xs, rfl, of_decide_eq_true h2, List.all_eq_true.mp h3, fun S2 e5 => q S2 (e3.trans e5)⟩
          · simp only [h4, if_true, true_and, Bool.false_eq_true, if_false, Bool.and_true, Bool.and_false, Bool.true_and, Bool.false_and, Bool.not_true, Bool.not_false, Bool.or_true, Bool.or_false, Bool.true_or, Bool.false_or] at q ⊢
            exact q S' e3
        · simp only [h3, if_true, true_and, Bool.false_eq_true, if_false, Bool.and_true, Bool.and_false, Bool.true_and, Bool.false_and, Bool.not_true, Bool.not_false, Bool.or_true, Bool.or_false, Bool.true_or, Bool.false_or] at q
          exact q S' e3
      · simp only [h1, h2, if_true, true_and, Bool.false_eq_true, if_false, Bool.and_true, Bool.and_false, Bool.true_and, Bool.false_and, Bool.not_true, Bool.not_false, Bool.or_true, Bool.or_false, Bool.true_or, Bool.false_or] at q ⊢
        exact q S (Ext.refl S)
    · simp only [h1, if_true, true_and, Bool.false_eq_true, if_false, Bool.and_true, Bool.and_false, Bool.true_and, Bool.false_and, Bool.not_true, Bool.not_false, Bool.or_true, Bool.or_false, Bool.true_or, Bool.false_or] at q ⊢
      exact q S (Ext.refl S)
  | _ => simpa [isTup, isNotice] using q S (Ext.refl S)
theorem ob_is_notice (n : Nat) (ds : List D) (S : Sto) (Q : KQ) (h : lv (n + 1) 4 spIsNotice ds S Q) : wB (fsN n) ir_is_notice (defEnds Q) (startD C_is_notice.N ds) S := by
  obtain ⟨hl, d, rfl, hf, q⟩ := h
  have hty := hf.nty
  simp only [DW.wG, DW.wGs, gsLen, List.set_cons_succ, List.set_cons_zero, wB, wS, DW.wT, DW.wTs, DW.wE, DW.wA, DW.wO, DW.wI, List.getElem?_cons_succ, List.getElem?_cons_zero, cmp_eq, cmp_ne, cmp_in, cmp_nin, cmp_lt, cmp_le, cmp_gt, cmp_ge, tru_non, tru_bl, tru_int, tru_tup, op_addi, op_subi, op_muli, op_divi, op_modi, op_powi, op_addt, op_rept, len_tup, len_rol, idx_tup, idx_rol, slc_tup, iter_tup, iter_rol, eqc_int, LIM, Nat.reduceLeDiff, dBlt, dIsi, dInt1, defEnds, startD, List.map_cons, List.map_nil, List.length_cons, List.length_nil, List.replicate_succ, List.replicate_zero, List.cons_append, List.nil_append, Nat.reduceAdd, Nat.reduceSub, isRef, Nat.zero_add, and_true, true_and, if_true, Bool.false_eq_true, if_false, ir_is_notice, kit_tuple d hty, c_MOST_SIGNS, c_MOST_CLAUSES]
  cases d with
  | ty n => exact absurd rfl (hty n)
  | tup xs =>
    simp only [isTup, len_tup, if_true, true_and, Bool.false_eq_true, if_false, Bool.and_true, Bool.and_false, Bool.true_and, Bool.false_and, Bool.not_true, Bool.not_false, Bool.or_true, Bool.or_false, Bool.true_or, Bool.false_or, iter_tup, cmp_le]
    have e1 : decide ((1 : Int) ≤ xs.length) = decide (1 ≤ xs.length) := by rw [Bool.eq_iff_iff]; simp; omega
    have e2 : decide ((xs.length : Int) ≤ 16) = decide (xs.length ≤ 16) := by rw [Bool.eq_iff_iff]; simp; omega
    simp only [e1, e2]
    unfold isNotice at q
    rcases bb (decide (1 ≤ xs.length)) with h1 | h1
    · rcases bb (decide (xs.length ≤ 16)) with h2 | h2
      · have hl2 : xs.length ≤ 16 := of_decide_eq_true h2
        simp only [h1, h2, if_true, true_and, Bool.false_eq_true, if_false, Bool.and_true, Bool.and_false, Bool.true_and, Bool.false_and, Bool.not_true, Bool.not_false, Bool.or_true, Bool.or_false, Bool.true_or, Bool.false_or] at q ⊢
        unfold ir_is_notice_l1
        refine all_lcp (xs := xs) isSign (by omega) rfl (fun d hd S1 R e1 k => ?_) (fun S' e1 e2 => ?_) (he := by funext R; rfl)
        · simp only [DW.wG, DW.wGs, gsLen, List.set_cons_succ, List.set_cons_zero, wB, wS, DW.wT, DW.wTs, DW.wE, DW.wA, DW.wO, DW.wI, List.getElem?_cons_succ, List.getElem?_cons_zero, cmp_eq, cmp_ne, cmp_in, cmp_nin, cmp_lt, cmp_le, cmp_gt, cmp_ge, tru_non, tru_bl, tru_int, tru_tup, op_addi, op_subi, op_muli, op_divi, op_modi, op_powi, op_addt, op_rept, len_tup, len_rol, idx_tup, idx_rol, slc_tup, iter_tup, iter_rol, eqc_int, LIM, Nat.reduceLeDiff, dBlt, dIsi, dInt1, defEnds, startD, List.map_cons, List.map_nil, List.length_cons, List.length_nil, List.replicate_succ, List.replicate_zero, List.cons_append, List.nil_append, Nat.reduceAdd, Nat.reduceSub, isRef, Nat.zero_add, and_true, true_and, if_true, Bool.false_eq_true, if_false, wipeD, f4]
          exact ⟨by omega, d, rfl, (hf.parts d hd).ext e1, k S1 (Ext.refl S1)⟩
        · rw [map_bl] at e2
          rw [bools_ref e2]
          try simp only [tru_bl]
          rw [show (xs.map isSign).all id = xs.all isSign from by rw [List.all_map]; rfl]
          rcases bb (xs.all isSign) with h3 | h3
          · simp only [h3, if_true, true_and, Bool.false_eq_true, if_false, Bool.and_true, Bool.and_false, Bool.true_and, Bool.false_and, Bool.not_true, Bool.not_false, Bool.or_true, Bool.or_false, Bool.true_or, Bool.false_or] at q ⊢
            unfold ir_is_notice_l0
            refine keep_lcp (xs := xs) isTup (by omega) (fun d hd S1 R e3 k => ?_) (fun d hd S1 => by funext R; rfl) (fun S2 e3 e4 => ?_) (by funext R; rfl)
            · have hfd := hf.parts d hd
              simp only [DW.wG, DW.wGs, gsLen, List.set_cons_succ, List.set_cons_zero, wB, wS, DW.wT, DW.wTs, DW.wE, DW.wA, DW.wO, DW.wI, List.getElem?_cons_succ, List.getElem?_cons_zero, cmp_eq, cmp_ne, cmp_in, cmp_nin, cmp_lt, cmp_le, cmp_gt, cmp_ge, tru_non, tru_bl, tru_int, tru_tup, op_addi, op_subi, op_muli, op_divi, op_modi, op_powi, op_addt, op_rept, len_tup, len_rol, idx_tup, idx_rol, slc_tup, iter_tup, iter_rol, eqc_int, LIM, Nat.reduceLeDiff, dBlt, dIsi, dInt1, defEnds, startD, List.map_cons, List.map_nil, List.length_cons, List.length_nil, List.replicate_succ, List.replicate_zero, List.cons_append, List.nil_append, Nat.reduceAdd, Nat.reduceSub, isRef, Nat.zero_add, and_true, true_and, if_true, Bool.false_eq_true, if_false, wipeD, kit_tuple d hfd.nty]
              refine ⟨by cases d <;> first | trivial | exact absurd rfl (hfd.nty _), ?_⟩
              first | exact k S1 (Ext.refl S1) | (simp only [tru_bl]; exact k S1 (Ext.refl S1))
            · try simp only [List.set_cons_succ, List.set_cons_zero, List.getElem?_cons_succ, List.getElem?_cons_zero]
              rw [len_ref e4]
              try simp only [cmp_le, tru_bl]
              have e6 : decide (((xs.filter isTup).length : Int) ≤ 4) = decide ((xs.filter isTup).length ≤ 4) := by rw [Bool.eq_iff_iff]; simp; omega
              rw [e6]
              rcases bb (decide ((xs.filter isTup).length ≤ 4)) with h4 | h4
              · simp only [h4, if_true, true_and, Bool.false_eq_true, if_false, Bool.and_true, Bool.and_false, Bool.true_and, Bool.false_and, Bool.not_true, Bool.not_false, Bool.or_true, Bool.or_false, Bool.true_or, Bool.false_or, f0] at q ⊢
                exact ⟨by omega, xs, rfl, fun d hd => (hf.parts d hd).ext (e1.trans e3), q S2 (e1.trans e3)⟩
              · simp only [h4, if_true, true_and, Bool.false_eq_true, if_false, Bool.and_true, Bool.and_false, Bool.true_and, Bool.false_and, Bool.not_true, Bool.not_false, Bool.or_true, Bool.or_false, Bool.true_or, Bool.false_or] at q ⊢
                exact q S2 (e1.trans e3)
          · simp only [h3, if_true, true_and, Bool.false_eq_true, if_false, Bool.and_true, Bool.and_false, Bool.true_and, Bool.false_and, Bool.not_true, Bool.not_false, Bool.or_true, Bool.or_false, Bool.true_or, Bool.false_or] at q ⊢
            exact q S' e1
      · simp only [h1, h2, if_true, true_and, Bool.false_eq_true, if_false, Bool.and_true, Bool.and_false, Bool.true_and, Bool.false_and, Bool.not_true, Bool.not_false, Bool.or_true, Bool.or_false, Bool.true_or, Bool.false_or] at q ⊢
        exact q S (Ext.refl S)
    · simp only [h1, if_true, true_and, Bool.false_eq_true, if_false, Bool.and_true, Bool.and_false, Bool.true_and, Bool.false_and, Bool.not_true, Bool.not_false, Bool.or_true, Bool.or_false, Bool.true_or, Bool.false_or] at q ⊢
      exact q S (Ext.refl S)
  | _ => simpa [isTup, isNotice] using q S (Ext.refl S)
end K01

set_option Elab.async false
set_option linter.all false
set_option maxRecDepth 100000
set_option maxHeartbeats 1000000

namespace K01
open PySem PySem.Spec PyProof.Rows L2 DW

/-! ### rows as tokens -/
inductive Tk where
  | x | nt | op | cl | ja | jo | ju | ji
  deriving DecidableEq
def Tk.s : Tk → String
  | .x => "x" | .nt => "not" | .op => "(" | .cl => ")" | .ja => "and" | .jo => "or" | .ju => "unless" | .ji => "onlyif"
def Tk.toD (t : Tk) : D := .str (Str.ofString t.s)
def Tk.isj : Tk → Bool
  | .ja | .jo | .ju | .ji => true
  | _ => false
theorem eqc_tk (a b : Tk) : eqc a.toD b.toD = decide (a = b) := by
  cases a <;> cases b <;> rfl
theorem eqcs_tk : ∀ (xs ys : List Tk), eqcs (xs.map Tk.toD) (ys.map Tk.toD) = decide (xs = ys)
  | [], [] => rfl
  | [], _ :: _ => rfl
  | _ :: _, [] => rfl
  | a :: xs, b :: ys => by
    simp only [List.map_cons, eqcs, eqc_tk, eqcs_tk xs ys]
    rw [Bool.eq_iff_iff]
    simp
theorem wk_tk (t : Tk) : wr t.toD = true ∧ okd 1000 19 [] t.toD = true := by cases t <;> decide +kernel
theorem wk_row (row : List Tk) (h : row.length ≤ 1000) : wk (.tup (row.map Tk.toD)) = true := by
  unfold wk
  rw [Bool.and_eq_true]
  constructor
  · show wrs (row.map Tk.toD) = true
    induction row with
    | nil => rfl
    | cons t r ih =>
      simp only [List.map_cons, wrs, (wk_tk t).1, Bool.true_and]
      exact ih (by simp at h; omega)
  · simp only [okd, Bool.and_eq_true, decide_eq_true_eq, List.length_map, List.all_map, List.all_eq_true]
    exact ⟨h, fun t _ => (wk_tk t).2⟩
/-- a sign's token -/
def tk (d : D) : Tk := if isTup d = true then .x else if eqc d (sD "and") = true then .ja else if eqc d (sD "or") = true then .jo else if eqc d (sD "unless") = true then .ju else if eqc d (sD "onlyif") = true then .ji
  else if eqc d (sD "not") = true then .nt else if eqc d (sD "(") = true then .op else .cl
theorem eqc_s {d : D} {z : String} (h : eqc d (sD z) = true) : d = sD z := by
  cases d with
  | str y =>
    simp only [sD, eqc, beq_iff_eq] at h
    rw [h]
  | _ => cases h
theorem sign_tk {d : D} (h : isSign d = true) (ht : isTup d = false) : d = (tk d).toD ∧ tk d ≠ .x := by
  have hs : isStr d = true := by
    rcases bb (isStr d) with z | z
    · exact z
    · rw [sign_tup z h] at ht; cases ht
  unfold isSign at h
  rw [if_pos hs] at h
  unfold tk
  rw [if_neg (by rw [ht]; decide)]
  simp only [isJ, isO, List.any_cons, List.any_nil, Bool.or_eq_true, Bool.or_false] at h
  split
  · rename_i e; exact ⟨eqc_s e, by decide⟩
  · split
    · rename_i e; exact ⟨eqc_s e, by decide⟩
    · split
      · rename_i e; exact ⟨eqc_s e, by decide⟩
      · split
        · rename_i e; exact ⟨eqc_s e, by decide⟩
        · split
          · rename_i e; exact ⟨eqc_s e, by decide⟩
          · split
            · rename_i e; exact ⟨eqc_s e, by decide⟩
            · rename_i n1 n2 n3 n4 n5 n6
              refine ⟨?_, by decide⟩
              rcases h with (h | h | h | h) | h | h | h
              · exact absurd h n1
              · exact absurd h n2
              · exact absurd h n3
              · exact absurd h n4
              · exact absurd h n5
              · exact absurd h n6
              · exact eqc_s h
/-- the rows that are accepted -/
def acc : Int → Bool → List Tk → Bool
  | k, due, [] => decide (k = 0) && !due
  | k, due, .op :: r => due && acc (k + 1) true r
  | k, due, .cl :: r => !due && (decide (0 < k) && acc (k - 1) false r)
  | k, due, .x :: r => due && acc k false r
  | k, due, .nt :: r => due && acc k true r
  | k, due, .ja :: r => !due && acc k true r
  | k, due, .jo :: r => !due && acc k true r
  | k, due, .ju :: r => !due && acc k true r
  | k, due, .ji :: r => !due && acc k true r
theorem step_tk (k : Int) (due : Bool) (t : Tk) (h : t ≠ .x) : rowStep k due t.toD = match t with
    | .op => if due = true then some (k + 1, true) else none
    | .cl => if due = true then none else if 0 < k then some (k - 1, false) else none
    | .nt => if due = true then some (k, true) else none
    | .x => none
    | _ => if due = true then none else some (k, true) := by
  have e : ∀ u : Tk, eqc t.toD (sD u.s) = decide (t = u) := fun u => eqc_tk t u
  have e1 := e .op
  have e2 := e .cl
  have e3 := e .nt
  have ej : isJ t.toD = t.isj := by cases t <;> rfl
  have et : isTup t.toD = false := rfl
  simp only [Tk.s] at e1 e2 e3
  unfold rowStep
  rw [e1, e2, e3, ej, et]
  cases t <;> cases due <;> first | exact absurd rfl h | rfl | (by_cases hk : 0 < k <;> simp [hk, Tk.isj])
theorem step_tup (k : Int) (due : Bool) (ds : List D) : rowStep k due (.tup ds) = if due = true then some (k, false) else none := by
  cases due <;> rfl
theorem rowOk_acc : ∀ (signs : List D) (k : Int) (due : Bool), (∀ d ∈ signs, isSign d = true) → rowOk k due signs = acc k due (signs.map tk)
  | [], k, due, _ => rfl
  | d :: r, k, due, h => by
    have ih := fun k due => rowOk_acc r k due fun z hz => h z (List.mem_cons_of_mem _ hz)
    have hd := h d List.mem_cons_self
    rcases bb (isTup d) with ht | ht
    · have et : tk d = .x := by unfold tk; rw [if_pos ht]
      cases d with
      | tup ds =>
        rw [List.map_cons, et]
        unfold rowOk
        rw [step_tup]
        cases due
        · rfl
        · simp only [if_true, acc, Bool.true_and]
          exact ih k false
      | _ => cases ht
    · obtain ⟨e1, e2⟩ := sign_tk hd ht
      rw [List.map_cons]
      unfold rowOk
      generalize tk d = t at e1 e2
      subst e1
      rw [step_tk k due t e2]
      cases t <;> cases due <;> first
        | exact absurd rfl e2
        | (simp only [if_true, Bool.false_eq_true, if_false, acc, Bool.true_and, Bool.false_and, Bool.not_true, Bool.not_false]; done)
        | (simp only [if_true, Bool.false_eq_true, if_false, acc, Bool.true_and, Bool.false_and, Bool.not_true, Bool.not_false]; exact ih _ _)
        | (by_cases hk : 0 < k
           · simp only [if_true, Bool.false_eq_true, if_false, acc, Bool.true_and, Bool.false_and, Bool.not_true, Bool.not_false, hk, decide_true]; exact ih _ _
           · simp only [if_true, Bool.false_eq_true, if_false, acc, Bool.true_and, Bool.false_and, Bool.not_true, Bool.not_false, hk, decide_false])

/-! ### the law's way of making a row shorter -/
def rep (s : List Tk) (i : Nat) (row : List Tk) : List Tk := row.take i ++ .x :: row.drop (i + s.length)
def hit (s : List Tk) (i : Nat) (row : List Tk) : Bool := decide ((row.drop i).take s.length = s)
def hit3 (i : Nat) (row : List Tk) : Bool := decide ((row.drop i).take 1 = [.x]) && (decide ((row.drop (i + 2)).take 1 = [.x]) && (match row[i + 1]? with | some t => t.isj | none => false))
def rs1 (i : Nat) (row : List Tk) : List Tk := if hit [.nt, .x] i row = true then rep [.nt, .x] i row else row
def rs2 (i : Nat) (row : List Tk) : List Tk := if hit [.op, .x, .cl] i row = true then rep [.op, .x, .cl] i row else row
def rs3 (i : Nat) (row : List Tk) : List Tk := if hit3 i row = true then rep [.x, .ja, .x] i row else row
def rstep (i : Nat) (row : List Tk) : List Tk := rs3 i (rs2 i (rs1 i row))
def rpass (l : List Nat) (row : List Tk) : List Tk := l.foldl (fun r i => rstep i r) row
theorem hit_eq {s row : List Tk} {i : Nat} (h : (row.drop i).take s.length = s) : row = row.take i ++ s ++ row.drop (i + s.length) := by
  have e1 : row.drop i = s ++ row.drop (i + s.length) := by
    have := List.take_append_drop s.length (row.drop i)
    rw [h, List.drop_drop] at this
    exact this.symm
  have e2 := List.take_append_drop i row
  rw [e1] at e2
  rw [List.append_assoc]
  exact e2.symm
theorem acc_sub {s post : List Tk} (hs : ∀ (k : Int) (due : Bool), 0 ≤ k → acc k due (s ++ post) = acc k due (.x :: post)) : ∀ (pre : List Tk) (k : Int) (due : Bool), 0 ≤ k → acc k due (pre ++ (s ++ post)) = acc k due (pre ++ .x :: post)
  | [], k, due, hk => hs k due hk
  | t :: pre, k, due, hk => by
    have ih := acc_sub hs pre
    cases t <;> simp only [List.cons_append, acc]
    · rw [ih k false hk]
    · rw [ih k true hk]
    · rw [ih (k + 1) true (by omega)]
    · by_cases h : 0 < k
      · rw [ih (k - 1) false (by omega)]
      · simp [h]
    · rw [ih k true hk]
    · rw [ih k true hk]
    · rw [ih k true hk]
    · rw [ih k true hk]
theorem acc_rep {s row : List Tk} {i : Nat} (h : (row.drop i).take s.length = s) (hs : ∀ (post : List Tk) (k : Int) (due : Bool), 0 ≤ k → acc k due (s ++ post) = acc k due (.x :: post)) : acc 0 true (rep s i row) = acc 0 true row := by
  conv => rhs; rw [hit_eq h]
  rw [List.append_assoc, acc_sub (hs _) _ _ _ (by omega)]
  rfl
theorem acc1 (post : List Tk) (k : Int) (due : Bool) (_ : 0 ≤ k) : acc k due ([.nt, .x] ++ post) = acc k due (.x :: post) := by
  simp only [List.cons_append, List.nil_append, acc]
  cases due <;> rfl
theorem acc2 (post : List Tk) (k : Int) (due : Bool) (hk : 0 ≤ k) : acc k due ([.op, .x, .cl] ++ post) = acc k due (.x :: post) := by
  simp only [List.cons_append, List.nil_append, acc]
  have : (0 : Int) < k + 1 := by omega
  have e : k + 1 - 1 = k := by omega
  simp [this, e]
theorem acc3 (j : Tk) (hj : j.isj = true) (post : List Tk) (k : Int) (due : Bool) (_ : 0 ≤ k) : acc k due ([.x, j, .x] ++ post) = acc k due (.x :: post) := by
  cases j <;> first | (exact absurd hj (by decide)) | (simp [acc])
theorem hit3_eq {row : List Tk} {i : Nat} (h : hit3 i row = true) : ∃ j : Tk, j.isj = true ∧ (row.drop i).take [Tk.x, j, .x].length = [.x, j, .x] := by
  unfold hit3 at h
  simp only [Bool.and_eq_true, decide_eq_true_eq] at h
  obtain ⟨h1, h2, h3⟩ := h
  split at h3
  · rename_i j e
    refine ⟨j, h3, ?_⟩
    have a1 : row[i]? = some .x := by
      have : ((row.drop i).take 1)[0]? = some .x := by rw [h1]; rfl
      rw [List.getElem?_take_of_lt (by omega), List.getElem?_drop] at this
      simpa using this
    have a2 : row[i + 2]? = some .x := by
      have : ((row.drop (i + 2)).take 1)[0]? = some .x := by rw [h2]; rfl
      rw [List.getElem?_take_of_lt (by omega), List.getElem?_drop] at this
      simpa using this
    have b1 : row.drop i = .x :: row.drop (i + 1) := by
      obtain ⟨hl, e1⟩ := List.getElem?_eq_some_iff.mp a1
      rw [List.drop_eq_getElem_cons hl, e1]
    have b2 : row.drop (i + 1) = j :: row.drop (i + 2) := by
      obtain ⟨hl, e1⟩ := List.getElem?_eq_some_iff.mp e
      rw [List.drop_eq_getElem_cons hl, e1]
    have b3 : row.drop (i + 2) = .x :: row.drop (i + 3) := by
      obtain ⟨hl, e1⟩ := List.getElem?_eq_some_iff.mp a2
      rw [List.drop_eq_getElem_cons hl, e1]
    rw [b1, b2, b3]
    rfl
  · cases h3
theorem acc_step (i : Nat) (row : List Tk) : acc 0 true (rstep i row) = acc 0 true row := by
  have q1 : ∀ r, acc 0 true (rs1 i r) = acc 0 true r := fun r => by
    unfold rs1
    split
    · rename_i h; exact acc_rep (of_decide_eq_true h) acc1
    · rfl
  have q2 : ∀ r, acc 0 true (rs2 i r) = acc 0 true r := fun r => by
    unfold rs2
    split
    · rename_i h; exact acc_rep (of_decide_eq_true h) acc2
    · rfl
  have q3 : ∀ r, acc 0 true (rs3 i r) = acc 0 true r := fun r => by
    unfold rs3
    split
    · rename_i h
      obtain ⟨j, hj, e⟩ := hit3_eq h
      exact acc_rep (s := [.x, j, .x]) e (acc3 j hj)
    · rfl
  unfold rstep
  rw [q3, q2, q1]
theorem acc_pass : ∀ (l : List Nat) (row : List Tk), acc 0 true (rpass l row) = acc 0 true row
  | [], _ => rfl
  | i :: l, row => by
    show acc 0 true (rpass l (rstep i row)) = _
    rw [acc_pass l, acc_step]
theorem rep_len {s row : List Tk} {i : Nat} (h : (row.drop i).take s.length = s) (hs : 2 ≤ s.length) : (rep s i row).length < row.length := by
  have e := congrArg List.length (hit_eq h)
  simp only [List.length_append] at e
  unfold rep
  simp only [List.length_append, List.length_cons]
  omega
/-- whether something can be made shorter at a place -/
def red (i : Nat) (row : List Tk) : Bool := hit [.nt, .x] i row || (hit [.op, .x, .cl] i row || hit3 i row)
theorem rstep_len (i : Nat) (row : List Tk) : (rstep i row).length ≤ row.length ∧ ((rstep i row).length = row.length → rstep i row = row ∧ red i row = false) := by
  have q1 : ∀ r, (hit [.nt, .x] i r = true ∧ (rs1 i r).length < r.length) ∨ (hit [.nt, .x] i r = false ∧ rs1 i r = r) := fun r => by
    unfold rs1
    rcases bb (hit [.nt, .x] i r) with h | h
    · rw [if_pos h]; exact .inl ⟨h, rep_len (of_decide_eq_true h) (by decide)⟩
    · rw [if_neg (by rw [h]; decide)]; exact .inr ⟨h, rfl⟩
  have q2 : ∀ r, (hit [.op, .x, .cl] i r = true ∧ (rs2 i r).length < r.length) ∨ (hit [.op, .x, .cl] i r = false ∧ rs2 i r = r) := fun r => by
    unfold rs2
    rcases bb (hit [.op, .x, .cl] i r) with h | h
    · rw [if_pos h]; exact .inl ⟨h, rep_len (of_decide_eq_true h) (by decide)⟩
    · rw [if_neg (by rw [h]; decide)]; exact .inr ⟨h, rfl⟩
  have q3 : ∀ r, (hit3 i r = true ∧ (rs3 i r).length < r.length) ∨ (hit3 i r = false ∧ rs3 i r = r) := fun r => by
    unfold rs3
    rcases bb (hit3 i r) with h | h
    · rw [if_pos h]
      obtain ⟨j, hj, e⟩ := hit3_eq h
      exact .inl ⟨h, rep_len (s := [.x, j, .x]) e (by simp)⟩
    · rw [if_neg (by rw [h]; decide)]; exact .inr ⟨h, rfl⟩
  unfold rstep
  have a := q1 row
  have b := q2 (rs1 i row)
  have c := q3 (rs2 i (rs1 i row))
  rcases a with ⟨a1, a2⟩ | ⟨a1, a2⟩ <;> rcases b with ⟨b1, b2⟩ | ⟨b1, b2⟩ <;> rcases c with ⟨c1, c2⟩ | ⟨c1, c2⟩
  · exact ⟨by omega, fun e => by omega⟩
  · rw [c2]; exact ⟨by omega, fun e => by omega⟩
  · rw [b2] at c2 ⊢; exact ⟨by omega, fun e => by omega⟩
  · rw [c2, b2]; exact ⟨by omega, fun e => by omega⟩
  · rw [a2] at b2 c2 ⊢; exact ⟨by omega, fun e => by omega⟩
  · rw [c2]; rw [a2] at b2 ⊢; exact ⟨by omega, fun e => by omega⟩
  · rw [b2, a2] at c2 ⊢; exact ⟨by omega, fun e => by omega⟩
  · rw [c2, b2, a2]
    rw [a2] at b1
    rw [b2, a2] at c1
    exact ⟨Nat.le_refl _, fun _ => ⟨rfl, by unfold red; rw [a1, b1, c1]; rfl⟩⟩
theorem rpass_len : ∀ (l : List Nat) (row : List Tk), (rpass l row).length ≤ row.length ∧ ((rpass l row).length = row.length → rpass l row = row ∧ ∀ i ∈ l, red i row = false)
  | [], row => ⟨Nat.le_refl _, fun _ => ⟨rfl, fun _ h => by cases h⟩⟩
  | i :: l, row => by
    obtain ⟨a1, a2⟩ := rstep_len i row
    obtain ⟨b1, b2⟩ := rpass_len l (rstep i row)
    have e : rpass (i :: l) row = rpass l (rstep i row) := rfl
    rw [e]
    refine ⟨by omega, fun h => ?_⟩
    obtain ⟨c1, c2⟩ := a2 (by omega)
    rw [c1] at b2 ⊢
    obtain ⟨d1, d2⟩ := b2 (by rw [c1] at h; exact h)
    exact ⟨d1, fun z hz => (List.mem_cons.mp hz).elim (fun z1 => by rw [z1]; exact c2) (d2 z)⟩
/-- a row that can't be made shorter, and is accepted, is one clause -/
theorem irr : ∀ (r : List Tk) (k : Int), 0 ≤ k → (∀ i, red i r = false) → acc k true r = true → r = [.x] ∨ ∃ r', r = .x :: .cl :: r'
  | [], k, _, _, h => by simp [acc] at h
  | t :: r, k, hk, hi, h => by
    have hi' : ∀ i, red i r = false := fun i => by
      have := hi (i + 1)
      unfold red hit hit3 at this ⊢
      simp only [List.drop_succ_cons, show i + 1 + 2 = (i + 2) + 1 from by omega, show i + 1 + 1 = (i + 1) + 1 from by omega, List.getElem?_cons_succ] at this
      exact this
    have h0 := hi 0
    unfold red hit hit3 at h0
    simp only [List.drop_zero] at h0
    cases t with
    | x =>
      simp only [acc, Bool.true_and] at h
      cases r with
      | nil => exact .inl rfl
      | cons u r2 =>
        cases u with
        | cl => exact .inr ⟨r2, rfl⟩
        | x => simp [acc] at h
        | nt => simp [acc] at h
        | op => simp [acc] at h
        | _ =>
          all_goals
            simp only [acc, Bool.not_false, Bool.true_and] at h
            have hi2 : ∀ i, red i r2 = false := fun i => by
              have := hi' (i + 1)
              unfold red hit hit3 at this ⊢
              simp only [List.drop_succ_cons, show i + 1 + 2 = (i + 2) + 1 from by omega, show i + 1 + 1 = (i + 1) + 1 from by omega, List.getElem?_cons_succ] at this
              exact this
            rcases irr r2 k hk hi2 h with e | ⟨r', e⟩ <;> (rw [e] at h0; simp [Tk.isj] at h0)
    | nt =>
      simp only [acc, Bool.true_and] at h
      rcases irr r k hk hi' h with e | ⟨r', e⟩ <;> (rw [e] at h0; simp at h0)
    | op =>
      simp only [acc, Bool.true_and] at h
      rcases irr r (k + 1) (by omega) hi' h with e | ⟨r', e⟩
      · rw [e] at h
        simp [acc] at h
        omega
      · rw [e] at h0; simp at h0
    | _ => all_goals simp [acc] at h
theorem row_fix {row : List Tk} (h : rpass (List.range row.length) row = row) : acc 0 true row = decide (row = [.x]) := by
  obtain ⟨_, h2⟩ := rpass_len (List.range row.length) row
  obtain ⟨_, h3⟩ := h2 (by rw [h])
  have hi : ∀ i, red i row = false := fun i => by
    by_cases hl : i < row.length
    · exact h3 i (List.mem_range.mpr hl)
    · unfold red hit hit3
      rw [List.drop_eq_nil_of_le (by omega)]
      simp
  rcases bb (acc 0 true row) with h4 | h4
  · rw [h4]
    rcases irr row 0 (by omega) hi h4 with e | ⟨r', e⟩
    · rw [e]; rfl
    · rw [e] at h4
      simp [acc] at h4
  · rw [h4]
    refine (decide_eq_false fun e => ?_).symm
    rw [e] at h4
    simp [acc] at h4
end K01

set_option Elab.async false
set_option linter.all false
set_option maxRecDepth 100000
set_option maxHeartbeats 1000000

namespace K01
open PySem PySem.Spec PyProof.Rows L2 DW

/-- the list of a row's tokens stands at a -/
def RowAt (S : Sto) (a : Nat) (row : List Tk) : Prop := S[a]? = some (.lst (row.map Tk.toD))
theorem cut_mid (xs : List D) (i n : Nat) : DW.cutD xs (some (i : Int)) (some ((i : Int) + (n : Int))) = (xs.drop i).take n := by
  unfold DW.cutD
  have e1 : HT.sIx xs.length 0 (some (i : Int)) = min i xs.length := HT.sIx_nat _ _ _
  have e2 : HT.sIx xs.length xs.length (some ((i : Int) + (n : Int))) = min (i + n) xs.length := by
    have := HT.sIx_nat xs.length xs.length (i + n)
    rw [← this]
    rfl
  rw [e1, e2]
  by_cases h : i ≤ xs.length
  · rw [Nat.min_eq_left h]
    have : (xs.drop i).length = xs.length - i := List.length_drop
    by_cases h2 : i + n ≤ xs.length
    · rw [Nat.min_eq_left h2, show i + n - i = n from by omega]
    · rw [Nat.min_eq_right (by omega), List.take_of_length_le (by omega), List.take_of_length_le (by omega)]
  · rw [Nat.min_eq_right (by omega : xs.length ≤ i), List.drop_eq_nil_of_le (by omega : xs.length ≤ i)]
    simp
theorem cut_lo (xs : List D) (i : Nat) : DW.cutD xs none (some (i : Int)) = xs.take i := by
  unfold DW.cutD
  rw [HT.sIx_none, HT.sIx_nat, List.drop_zero, Nat.sub_zero]
  by_cases h : i ≤ xs.length
  · rw [Nat.min_eq_left h]
  · rw [Nat.min_eq_right (by omega), List.take_of_length_le (by omega), List.take_of_length_le (by omega)]
theorem cut_hi (xs : List D) (i n : Nat) : DW.cutD xs (some ((i : Int) + (n : Int))) none = xs.drop (i + n) := by
  unfold DW.cutD
  have e1 : HT.sIx xs.length 0 (some ((i : Int) + (n : Int))) = min (i + n) xs.length := HT.sIx_nat xs.length 0 (i + n)
  rw [e1, HT.sIx_none]
  by_cases h : i + n ≤ xs.length
  · rw [Nat.min_eq_left h, List.take_of_length_le (by simp)]
  · rw [Nat.min_eq_right (by omega), List.drop_eq_nil_of_le (by omega : xs.length ≤ i + n), List.drop_length]
    simp
theorem map_mid (row : List Tk) (i n : Nat) : ((row.map Tk.toD).drop i).take n = ((row.drop i).take n).map Tk.toD := by
  rw [List.map_take, List.map_drop]

section
variable {n : Nat} {S : Sto} {sg old z : Option D} {a i : Nat} {row : List Tk}
/-- row[i + m : i + m + k] == [..] -/
theorem cmp_cut {m k : Nat} {pat : List Tk} {B : KB} (hr : RowAt S a row) (hl : row.length ≤ 16) (hp : pat.length ≤ 16) (hB : ∀ S', Ext S S' → B (decide ((row.drop (i + m)).take k = pat)) S') :
    dSlc (.ref a) (some ((i + m : Nat) : Int)) (some (((i + m : Nat) : Int) + (k : Int))) S fun x S1 => dEq x (.ref S1.length) (S1 ++ [.lst (pat.map Tk.toD)]) B := by
  rw [slc_ref hr, cut_mid, map_mid]
  refine dEq_ll (xs := ((row.drop (i + m)).take k).map Tk.toD) (ys := pat.map Tk.toD) (Ext.app _ _ _ _ (sto_last S _)) (sto_last _ _) (wk_row _ ?_) (wk_row _ (by omega)) ?_
  · rw [List.length_take, List.length_drop]; omega
  · rw [eqcs_tk]
    exact hB _ ((Ext.app S _).trans (Ext.app _ _))
/-- row[:i] + ['x'] + row[i + k:] -/
theorem put_cut {k : Nat} {Q : KQ} (hr : RowAt S a row) (hl : row.length ≤ 16) (hQ : ∀ S' a', Ext S S' → RowAt S' a' (row.take i ++ .x :: row.drop (i + k)) → Q (.ref a') S') :
    dSlc (.ref a) none (some (i : Int)) S fun x S1 => dOp .Add x (.ref S1.length) (S1 ++ [.lst [D.str "x"]]) fun y S2 => dSlc (.ref a) (some ((i : Int) + (k : Int))) none S2 fun z S3 => dOp .Add y z S3 Q := by
  rw [slc_ref hr, cut_lo]
  rw [op_addl (m := S.length) (n := (S ++ [Ob.lst (List.take i (row.map Tk.toD))]).length) (xs := (row.map Tk.toD).take i) (ys := [D.str "x"]) (Ext.app _ _ _ _ (sto_last S _)) (sto_last _ _)]
  refine ⟨by simp only [List.length_take, List.length_map, List.length_cons, List.length_nil, LIM]; omega, ?_⟩
  have e1 := ((Ext.app S [Ob.lst (List.take i (row.map Tk.toD))]).trans (Ext.app _ [Ob.lst [D.str "x"]])).trans (Ext.app _ [Ob.lst (List.take i (row.map Tk.toD) ++ [D.str "x"])])
  rw [slc_ref (e1 _ _ hr), cut_hi]
  rw [op_addl (xs := (row.map Tk.toD).take i ++ [D.str "x"]) (ys := (row.map Tk.toD).drop (i + k)) (Ext.app _ _ _ _ (sto_last _ _)) (sto_last _ _)]
  refine ⟨by simp only [List.length_append, List.length_take, List.length_drop, List.length_map, List.length_cons, List.length_nil, LIM]; omega, ?_⟩
  refine hQ _ _ ((e1.trans (Ext.app _ _)).trans (Ext.app _ _)) ?_
  unfold RowAt
  rw [sto_last]
  congr 2
  simp only [List.map_append, List.map_take, List.map_cons, List.map_drop, List.append_assoc, List.cons_append, List.nil_append]
  rfl
end
theorem idx_row {S : Sto} {a i : Nat} {row : List Tk} {Q : KQ} (hr : RowAt S a row) {t : Tk} (ht : row[i + 1]? = some t) (q : Q t.toD S) : dIdx (.ref a) (.int ((i : Int) + 1)) S Q := by
  rw [idx_ref hr]
  refine ⟨t.toD, ?_, q⟩
  have := atI_nat (xs := row.map Tk.toD) (j := i + 1) (v := t.toD) (by rw [List.getElem?_map, ht]; rfl)
  exact this
theorem any_jts (t : Tk) : (jts.any fun c => eqc t.toD c) = t.isj := by cases t <;> rfl
theorem wk_jts : wk (.tup jts) = true := wk_J
theorem wk_t (t : Tk) : wk t.toD = true := by cases t <;> decide +kernel

theorem rstep_le {row : List Tk} (i : Nat) : (rs1 i row).length ≤ row.length ∧ (rs2 i row).length ≤ row.length ∧ (rs3 i row).length ≤ row.length := by
  refine ⟨?_, ?_, ?_⟩
  · unfold rs1
    split
    · rename_i h; exact Nat.le_of_lt (rep_len (of_decide_eq_true h) (by decide))
    · exact Nat.le_refl _
  · unfold rs2
    split
    · rename_i h; exact Nat.le_of_lt (rep_len (of_decide_eq_true h) (by decide))
    · exact Nat.le_refl _
  · unfold rs3
    split
    · rename_i h
      obtain ⟨j, hj, e⟩ := hit3_eq h
      exact Nat.le_of_lt (rep_len (s := [.x, j, .x]) e (by simp))
    · exact Nat.le_refl _
abbrev sI (k : Nat) : IS := match k, ir__law_is_row_b0 with
  | 0, .cons s _ => s
  | 1, .cons _ (.cons s _) => s
  | 2, .cons _ (.cons _ (.cons s _)) => s
  | _, _ => .pass
section
variable {n : Nat} {S : Sto} {E : DEnds} {sg old z : Option D} {a i : Nat} {row : List Tk}
theorem row_s0 (hr : RowAt S a row) (hl : row.length ≤ 16) (hE : ∀ S' a', Ext S S' → RowAt S' a' (rs1 i row) → E.nx [sg, some (.ref a'), old, some (.int (i : Int)), z] S') : wS (fsN n) (sI 0) E [sg, some (.ref a), old, some (.int (i : Int)), z] S := by
  simp only [DW.wG, DW.wGs, gsLen, List.set_cons_succ, List.set_cons_zero, wB, wS, DW.wT, DW.wTs, DW.wE, DW.wA, DW.wO, DW.wI, List.getElem?_cons_succ, List.getElem?_cons_zero, cmp_eq, cmp_ne, cmp_in, cmp_nin, cmp_lt, cmp_le, cmp_gt, cmp_ge, tru_non, tru_bl, tru_int, tru_tup, op_addi, op_subi, op_muli, op_divi, op_modi, op_powi, op_addt, op_rept, len_tup, len_rol, idx_tup, idx_rol, slc_tup, iter_tup, iter_rol, eqc_int, LIM, Nat.reduceLeDiff, dBlt, dIsi, dInt1, defEnds, startD, List.map_cons, List.map_nil, List.length_cons, List.length_nil, List.replicate_succ, List.replicate_zero, List.cons_append, List.nil_append, Nat.reduceAdd, Nat.reduceSub, isRef, Nat.zero_add, and_true, true_and, if_true, Bool.false_eq_true, if_false, sI, ir__law_is_row_b0]
  refine cmp_cut (m := 0) (k := 2) (pat := [.nt, .x]) hr hl (by decide) fun S1 e1 => ?_
  rw [Nat.add_zero]
  have eh : decide ((row.drop i).take 2 = [Tk.nt, Tk.x]) = hit [.nt, .x] i row := rfl
  rw [eh]
  unfold rs1 at hE
  rcases bb (hit [.nt, .x] i row) with h | h
  · simp only [h, if_true] at hE ⊢
    exact put_cut (k := 2) (e1 _ _ hr) hl fun S2 a2 e2 r2 => hE S2 a2 (e1.trans e2) r2
  · simp only [h, Bool.false_eq_true, if_false] at hE ⊢
    exact hE S1 a e1 (e1 _ _ hr)
theorem row_s1 (hr : RowAt S a row) (hl : row.length ≤ 16) (hE : ∀ S' a', Ext S S' → RowAt S' a' (rs2 i row) → E.nx [sg, some (.ref a'), old, some (.int (i : Int)), z] S') : wS (fsN n) (sI 1) E [sg, some (.ref a), old, some (.int (i : Int)), z] S := by
  simp only [DW.wG, DW.wGs, gsLen, List.set_cons_succ, List.set_cons_zero, wB, wS, DW.wT, DW.wTs, DW.wE, DW.wA, DW.wO, DW.wI, List.getElem?_cons_succ, List.getElem?_cons_zero, cmp_eq, cmp_ne, cmp_in, cmp_nin, cmp_lt, cmp_le, cmp_gt, cmp_ge, tru_non, tru_bl, tru_int, tru_tup, op_addi, op_subi, op_muli, op_divi, op_modi, op_powi, op_addt, op_rept, len_tup, len_rol, idx_tup, idx_rol, slc_tup, iter_tup, iter_rol, eqc_int, LIM, Nat.reduceLeDiff, dBlt, dIsi, dInt1, defEnds, startD, List.map_cons, List.map_nil, List.length_cons, List.length_nil, List.replicate_succ, List.replicate_zero, List.cons_append, List.nil_append, Nat.reduceAdd, Nat.reduceSub, isRef, Nat.zero_add, and_true, true_and, if_true, Bool.false_eq_true, if_false, sI, ir__law_is_row_b0]
  refine cmp_cut (m := 0) (k := 3) (pat := [.op, .x, .cl]) hr hl (by decide) fun S1 e1 => ?_
  rw [Nat.add_zero]
  have eh : decide ((row.drop i).take 3 = [Tk.op, Tk.x, Tk.cl]) = hit [.op, .x, .cl] i row := rfl
  rw [eh]
  unfold rs2 at hE
  rcases bb (hit [.op, .x, .cl] i row) with h | h
  · simp only [h, if_true] at hE ⊢
    exact put_cut (k := 3) (e1 _ _ hr) hl fun S2 a2 e2 r2 => hE S2 a2 (e1.trans e2) r2
  · simp only [h, Bool.false_eq_true, if_false] at hE ⊢
    exact hE S1 a e1 (e1 _ _ hr)
theorem row_s2 (hn : 1 ≤ n) (hr : RowAt S a row) (hl : row.length ≤ 16) (hE : ∀ S' a', Ext S S' → RowAt S' a' (rs3 i row) → E.nx [sg, some (.ref a'), old, some (.int (i : Int)), z] S') : wS (fsN n) (sI 2) E [sg, some (.ref a), old, some (.int (i : Int)), z] S := by
  simp only [DW.wG, DW.wGs, gsLen, List.set_cons_succ, List.set_cons_zero, wB, wS, DW.wT, DW.wTs, DW.wE, DW.wA, DW.wO, DW.wI, List.getElem?_cons_succ, List.getElem?_cons_zero, cmp_eq, cmp_ne, cmp_in, cmp_nin, cmp_lt, cmp_le, cmp_gt, cmp_ge, tru_non, tru_bl, tru_int, tru_tup, op_addi, op_subi, op_muli, op_divi, op_modi, op_powi, op_addt, op_rept, len_tup, len_rol, idx_tup, idx_rol, slc_tup, iter_tup, iter_rol, eqc_int, LIM, Nat.reduceLeDiff, dBlt, dIsi, dInt1, defEnds, startD, List.map_cons, List.map_nil, List.length_cons, List.length_nil, List.replicate_succ, List.replicate_zero, List.cons_append, List.nil_append, Nat.reduceAdd, Nat.reduceSub, isRef, Nat.zero_add, and_true, true_and, if_true, Bool.false_eq_true, if_false, sI, ir__law_is_row_b0, f17]
  unfold rs3 hit3 at hE
  refine cmp_cut (m := 0) (k := 1) (pat := [.x]) hr hl (by decide) fun S1 e1 => ?_
  rw [Nat.add_zero]
  rcases bb (decide ((row.drop i).take 1 = [Tk.x])) with h1 | h1
  · simp only [h1, if_true, true_and, Bool.false_eq_true, if_false, Bool.and_true, Bool.and_false, Bool.true_and, Bool.false_and, Bool.not_true, Bool.not_false, Bool.or_true, Bool.or_false, Bool.true_or, Bool.false_or] at hE ⊢
    refine cmp_cut (m := 2) (k := 1) (pat := [.x]) (e1 _ _ hr) hl (by decide) fun S2 e2 => ?_
    rcases bb (decide ((row.drop (i + 2)).take 1 = [Tk.x])) with h2 | h2
    · simp only [h2, if_true, true_and, Bool.false_eq_true, if_false, Bool.and_true, Bool.and_false, Bool.true_and, Bool.false_and, Bool.not_true, Bool.not_false, Bool.or_true, Bool.or_false, Bool.true_or, Bool.false_or] at hE ⊢
      have hlen : i + 1 < row.length := by
        have := of_decide_eq_true h2
        have h3 := congrArg List.length this
        simp only [List.length_take, List.length_drop, List.length_cons, List.length_nil] at h3
        omega
      have ht : row[i + 1]? = some (row[i + 1]'hlen) := List.getElem?_eq_getElem _
      rw [ht] at hE
      generalize row[i + 1]'hlen = t at ht hE
      refine idx_row ((e1.trans e2) _ _ hr) ht ?_
      refine ⟨by omega, rfl, ?_⟩
      refine dIn_l (wk_fit (wk_t t)) (sto_last S2 _) wk_jts ?_
      rw [any_jts]
      have e3 := (e1.trans e2).trans (Ext.app S2 [Ob.lst jts])
      rcases bb t.isj with h3 | h3
      · simp only [h3, if_true, true_and, Bool.false_eq_true, if_false, Bool.and_true, Bool.and_false, Bool.true_and, Bool.false_and, Bool.not_true, Bool.not_false, Bool.or_true, Bool.or_false, Bool.true_or, Bool.false_or] at hE ⊢
        exact put_cut (k := 3) (e3 _ _ hr) hl fun S3 a3 e4 r3 => hE S3 a3 (e3.trans e4) r3
      · simp only [h3, if_true, true_and, Bool.false_eq_true, if_false, Bool.and_true, Bool.and_false, Bool.true_and, Bool.false_and, Bool.not_true, Bool.not_false, Bool.or_true, Bool.or_false, Bool.true_or, Bool.false_or] at hE ⊢
        exact hE _ a e3 (e3 _ _ hr)
    · simp only [h2, if_true, true_and, Bool.false_eq_true, if_false, Bool.and_true, Bool.and_false, Bool.true_and, Bool.false_and, Bool.not_true, Bool.not_false, Bool.or_true, Bool.or_false, Bool.true_or, Bool.false_or] at hE ⊢
      exact hE S2 a (e1.trans e2) ((e1.trans e2) _ _ hr)
  · simp only [h1, if_true, true_and, Bool.false_eq_true, if_false, Bool.and_true, Bool.and_false, Bool.true_and, Bool.false_and, Bool.not_true, Bool.not_false, Bool.or_true, Bool.or_false, Bool.true_or, Bool.false_or] at hE ⊢
    exact hE S1 a e1 (e1 _ _ hr)
theorem row_b0 (hn : 1 ≤ n) (hr : RowAt S a row) (hl : row.length ≤ 16)
    (hE : ∀ S' a', Ext S S' → RowAt S' a' (rstep i row) → E.nx [sg, some (.ref a'), old, some (.int (i : Int)), z] S') : wB (fsN n) ir__law_is_row_b0 E [sg, some (.ref a), old, some (.int (i : Int)), z] S := by
  show wS (fsN n) (sI 0) { E with nx := fun ρ S => wS (fsN n) (sI 1) { E with nx := fun ρ S => wS (fsN n) (sI 2) { E with nx := fun ρ S => E.nx ρ S } ρ S } ρ S } _ S
  refine row_s0 hr hl fun S1 a1 e1 r1 => ?_
  have l1 := (rstep_le (row := row) i).1
  refine row_s1 r1 (by omega) fun S2 a2 e2 r2 => ?_
  have l2 := (rstep_le (row := rs1 i row) i).2.1
  refine row_s2 hn r2 (by omega) fun S3 a3 e3 r3 => ?_
  exact hE S3 a3 ((e1.trans e2).trans e3) r3
end
theorem row_loop2 {n : Nat} {E : DEnds} {sg old z : Option D} (hn : 1 ≤ n) : ∀ (l : List Nat) (S : Sto) (a : Nat) (row : List Tk) (y : Option D), RowAt S a row → row.length ≤ 16 →
    (∀ S' a' y', Ext S S' → RowAt S' a' (rpass l row) → E.nx [sg, some (.ref a'), old, y', z] S') →
    fLoop (fun _ => True) (fun d ρ' S' k => DW.wG (fsN n) (.name 3) d ρ' S' k) (fun E' ρ' S' => wB (fsN n) ir__law_is_row_b0 E' ρ' S') E (l.map fun (i : Nat) => D.int (i : Int)) [sg, some (.ref a), old, y, z] S
  | [], S, a, row, y, hr, hl, hE => ⟨trivial, hE S a y (Ext.refl S) hr⟩
  | i :: l, S, a, row, y, hr, hl, hE => by
    refine ⟨trivial, ?_⟩
    show wB (fsN n) ir__law_is_row_b0 _ [sg, some (.ref a), old, some (.int (i : Int)), z] S
    refine row_b0 hn hr hl fun S1 a1 e1 r1 => ?_
    exact row_loop2 hn l S1 a1 (rstep i row) _ r1 (by have := (rstep_len i row).1; omega) fun S2 a2 y2 e2 r2 => hE S2 a2 y2 (e1.trans e2) r2
theorem ints_map (n : Nat) : DW.intsFrom 0 n = (List.range n).map fun (i : Nat) => D.int (i : Int) := by
  unfold DW.intsFrom
  congr 1
  funext i
  simp
/-- the while loop: it ends where the old row is the new one -/
theorem row_exit {n : Nat} {E : DEnds} {sg z y : Option D} {k : Nat} {S : Sto} {a : Nat} {old : D} (hold : ∀ B : KB, B true S → dEq old (.ref a) S B) (h : E.nx [sg, some (.ref a), some old, y, z] S) :
    hLoop (fun ρ' S' k => DW.wT (fsN n) ir__law_is_row_c0 ρ' S' k) (fun E' ρ' S' => wB (fsN n) ir__law_is_row_b1 E' ρ' S') E (k + 1) [sg, some (.ref a), some old, y, z] S := by
  unfold hLoop
  simp only [DW.wG, DW.wGs, gsLen, List.set_cons_succ, List.set_cons_zero, wB, wS, DW.wT, DW.wTs, DW.wE, DW.wA, DW.wO, DW.wI, List.getElem?_cons_succ, List.getElem?_cons_zero, cmp_eq, cmp_ne, cmp_in, cmp_nin, cmp_lt, cmp_le, cmp_gt, cmp_ge, tru_non, tru_bl, tru_int, tru_tup, op_addi, op_subi, op_muli, op_divi, op_modi, op_powi, op_addt, op_rept, len_tup, len_rol, idx_tup, idx_rol, slc_tup, iter_tup, iter_rol, eqc_int, LIM, Nat.reduceLeDiff, dBlt, dIsi, dInt1, defEnds, startD, List.map_cons, List.map_nil, List.length_cons, List.length_nil, List.replicate_succ, List.replicate_zero, List.cons_append, List.nil_append, Nat.reduceAdd, Nat.reduceSub, isRef, Nat.zero_add, and_true, true_and, if_true, Bool.false_eq_true, if_false, ir__law_is_row_c0]
  refine hold _ ?_
  simp only [Bool.not_true, Bool.false_eq_true, if_false]
  exact h
theorem row_turn {n : Nat} {E : DEnds} {sg z y : Option D} {S : Sto} {a : Nat} {row : List Tk} {old : D} (hn : 1 ≤ n) (hl : row.length ≤ 16) (hr : RowAt S a row)
    (hE : ∀ S' a' b' y', Ext S S' → RowAt S' b' row → RowAt S' a' (rpass (List.range row.length) row) → E.nx [sg, some (.ref a'), some (.ref b'), y', z] S') :
    wB (fsN n) ir__law_is_row_b1 E [sg, some (.ref a), some old, y, z] S := by
  simp only [DW.wG, DW.wGs, gsLen, List.set_cons_succ, List.set_cons_zero, wB, wS, DW.wT, DW.wTs, DW.wE, DW.wA, DW.wO, DW.wI, List.getElem?_cons_succ, List.getElem?_cons_zero, cmp_eq, cmp_ne, cmp_in, cmp_nin, cmp_lt, cmp_le, cmp_gt, cmp_ge, tru_non, tru_bl, tru_int, tru_tup, op_addi, op_subi, op_muli, op_divi, op_modi, op_powi, op_addt, op_rept, len_tup, len_rol, idx_tup, idx_rol, slc_tup, iter_tup, iter_rol, eqc_int, LIM, Nat.reduceLeDiff, dBlt, dIsi, dInt1, defEnds, startD, List.map_cons, List.map_nil, List.length_cons, List.length_nil, List.replicate_succ, List.replicate_zero, List.cons_append, List.nil_append, Nat.reduceAdd, Nat.reduceSub, isRef, Nat.zero_add, and_true, true_and, if_true, Bool.false_eq_true, if_false, ir__law_is_row_b1, dItems, items]
  unfold RowAt at hr
  simp only [hr]
  have e1 := Ext.app S [Ob.lst (row.map Tk.toD)]
  rw [len_ref (e1 _ _ hr)]
  refine ⟨⟨by omega, by rw [List.length_map]; omega⟩, ?_⟩
  rw [List.length_map, show ((row.length : Nat) : Int).toNat = row.length from rfl, ints_map]
  refine row_loop2 hn (List.range row.length) _ a row y (e1 _ _ hr) hl fun S2 a2 y2 e2 r2 => ?_
  exact hE S2 a2 S.length y2 (e1.trans e2) (e2 _ _ (sto_last S _)) r2
theorem row_while {n : Nat} {E : DEnds} {sg z : Option D} (hn : 1 ≤ n) : ∀ (m : Nat) (S : Sto) (a : Nat) (row : List Tk) (old : D) (y : Option D), row.length ≤ m → row.length ≤ 16 → RowAt S a row → (∀ B : KB, B false S → dEq old (.ref a) S B) →
    (∀ S' a' old' y' row', Ext S S' → RowAt S' a' row' → row'.length ≤ 16 → acc 0 true row = decide (row' = [.x]) → E.nx [sg, some (.ref a'), old', y', z] S') →
    hLoop (fun ρ' S' k => DW.wT (fsN n) ir__law_is_row_c0 ρ' S' k) (fun E' ρ' S' => wB (fsN n) ir__law_is_row_b1 E' ρ' S') E (m + 2) [sg, some (.ref a), some old, y, z] S := by
  intro m
  induction m with
  | zero =>
    intro S a row old y hm hl hr hold hE
    unfold hLoop
    simp only [DW.wG, DW.wGs, gsLen, List.set_cons_succ, List.set_cons_zero, wB, wS, DW.wT, DW.wTs, DW.wE, DW.wA, DW.wO, DW.wI, List.getElem?_cons_succ, List.getElem?_cons_zero, cmp_eq, cmp_ne, cmp_in, cmp_nin, cmp_lt, cmp_le, cmp_gt, cmp_ge, tru_non, tru_bl, tru_int, tru_tup, op_addi, op_subi, op_muli, op_divi, op_modi, op_powi, op_addt, op_rept, len_tup, len_rol, idx_tup, idx_rol, slc_tup, iter_tup, iter_rol, eqc_int, LIM, Nat.reduceLeDiff, dBlt, dIsi, dInt1, defEnds, startD, List.map_cons, List.map_nil, List.length_cons, List.length_nil, List.replicate_succ, List.replicate_zero, List.cons_append, List.nil_append, Nat.reduceAdd, Nat.reduceSub, isRef, Nat.zero_add, and_true, true_and, if_true, Bool.false_eq_true, if_false, ir__law_is_row_c0]
    refine hold _ ?_
    simp only [Bool.not_false, if_true]
    refine row_turn hn hl hr fun S2 a2 b2 y2 e2 r2 r3 => ?_
    have hnil : row = [] := List.eq_nil_of_length_eq_zero (by omega)
    subst hnil
    refine row_exit (fun B hB => dEq_ll r2 r3 (wk_row _ (by simp)) (wk_row _ (by simp [rpass])) (by rw [eqcs_tk]; exact hB)) ?_
    exact hE S2 a2 _ y2 [] e2 r3 (by simp) (row_fix rfl)
  | succ m ih =>
    intro S a row old y hm hl hr hold hE
    unfold hLoop
    simp only [DW.wG, DW.wGs, gsLen, List.set_cons_succ, List.set_cons_zero, wB, wS, DW.wT, DW.wTs, DW.wE, DW.wA, DW.wO, DW.wI, List.getElem?_cons_succ, List.getElem?_cons_zero, cmp_eq, cmp_ne, cmp_in, cmp_nin, cmp_lt, cmp_le, cmp_gt, cmp_ge, tru_non, tru_bl, tru_int, tru_tup, op_addi, op_subi, op_muli, op_divi, op_modi, op_powi, op_addt, op_rept, len_tup, len_rol, idx_tup, idx_rol, slc_tup, iter_tup, iter_rol, eqc_int, LIM, Nat.reduceLeDiff, dBlt, dIsi, dInt1, defEnds, startD, List.map_cons, List.map_nil, List.length_cons, List.length_nil, List.replicate_succ, List.replicate_zero, List.cons_append, List.nil_append, Nat.reduceAdd, Nat.reduceSub, isRef, Nat.zero_add, and_true, true_and, if_true, Bool.false_eq_true, if_false, ir__law_is_row_c0]
    refine hold _ ?_
    simp only [Bool.not_false, if_true]
    refine row_turn hn hl hr fun S2 a2 b2 y2 e2 r2 r3 => ?_
    obtain ⟨l1, l2⟩ := rpass_len (List.range row.length) row
    have cmp : ∀ B : KB, B (decide (row = rpass (List.range row.length) row)) S2 → dEq (.ref b2) (.ref a2) S2 B := fun B hB =>
      dEq_ll r2 r3 (wk_row _ (by omega)) (wk_row _ (by omega)) (by rw [eqcs_tk]; exact hB)
    by_cases hfix : rpass (List.range row.length) row = row
    · refine row_exit (fun B hB => cmp B (by rw [decide_eq_true hfix.symm]; exact hB)) ?_
      refine hE S2 a2 _ y2 row e2 (by rw [hfix] at r3; exact r3) hl (row_fix hfix)
    · have hlt : (rpass (List.range row.length) row).length < row.length := by
        rcases Nat.lt_or_ge (rpass (List.range row.length) row).length row.length with h | h
        · exact h
        · exact absurd (l2 (by omega)).1 hfix
      refine ih S2 a2 _ _ y2 (by omega) (by omega) r3 (fun B hB => cmp B (by rw [decide_eq_false (Ne.symm hfix)]; exact hB)) fun S3 a3 old3 y3 row3 e3 r4 l3 h3 => ?_
      exact hE S3 a3 old3 y3 row3 (e2.trans e3) r4 l3 (by rw [← acc_pass (List.range row.length) row]; exact h3)
theorem none_row {S : Sto} {a : Nat} {row : List Tk} {B : KB} (hr : RowAt S a row) (hl : row.length ≤ 1000) (h : B false S) : dEq .non (.ref a) S B := by
  have m1 := wk_mapM (S := S) (k := 65) (by omega) (wk_row row hl)
  exact ⟨.none, .list (pycs (row.map Tk.toD)), rfl, by rw [toPy_ref 65 hr, m1]; rfl, by decide, (wk_shape (wk_row row hl)).1, h⟩
theorem signs_map : ∀ (signs : List D), (∀ d ∈ signs, isSign d = true) → (signs.map fun d => if isTup d = true then D.str "x" else d) = (signs.map tk).map Tk.toD
  | [], _ => rfl
  | d :: r, h => by
    have ih := signs_map r fun z hz => h z (List.mem_cons_of_mem _ hz)
    simp only [List.map_cons, ih]
    congr 1
    rcases bb (isTup d) with ht | ht
    · rw [if_pos ht]
      have : tk d = .x := by unfold tk; rw [if_pos ht]
      rw [this]
      rfl
    · rw [if_neg (by rw [ht]; decide)]
      exact (sign_tk (h d List.mem_cons_self) ht).1
theorem sign_nty {d : D} (h : isSign d = true) : ∀ n, d ≠ .ty n := fun n e => by
  subst e
  simp [isSign, isStr, isTriple] at h
theorem ob__law_is_row (n : Nat) (ds : List D) (S : Sto) (Q : KQ) (h : lv (n + 1) 2 spLRow ds S Q) : wB (fsN n) ir__law_is_row (defEnds Q) (startD C__law_is_row.N ds) S := by
  obtain ⟨hl, signs, rfl, hlen, hs, q⟩ := h
  simp only [DW.wG, DW.wGs, gsLen, List.set_cons_succ, List.set_cons_zero, wB, wS, DW.wT, DW.wTs, DW.wE, DW.wA, DW.wO, DW.wI, List.getElem?_cons_succ, List.getElem?_cons_zero, cmp_eq, cmp_ne, cmp_in, cmp_nin, cmp_lt, cmp_le, cmp_gt, cmp_ge, tru_non, tru_bl, tru_int, tru_tup, op_addi, op_subi, op_muli, op_divi, op_modi, op_powi, op_addt, op_rept, len_tup, len_rol, idx_tup, idx_rol, slc_tup, iter_tup, iter_rol, eqc_int, LIM, Nat.reduceLeDiff, dBlt, dIsi, dInt1, defEnds, startD, List.map_cons, List.map_nil, List.length_cons, List.length_nil, List.replicate_succ, List.replicate_zero, List.cons_append, List.nil_append, Nat.reduceAdd, Nat.reduceSub, isRef, Nat.zero_add, and_true, true_and, if_true, Bool.false_eq_true, if_false, ir__law_is_row]
  unfold ir__law_is_row_l0
  simp only [DW.wE, DW.wI, List.getElem?_cons_zero, iter_tup]
  refine cLoop_ext (S := S) (fun d => some (if isTup d = true then D.str "x" else d)) (by simp only [LIM]; omega) (fun _ _ => trivial) (fun d hd S1 ky kn e1 k => ?_) fun S1 e1 e2 => ?_
  · have hty := sign_nty (hs d hd)
    simp only [DW.wG, DW.wGs, gsLen, List.set_cons_succ, List.set_cons_zero, wB, wS, DW.wT, DW.wTs, DW.wE, DW.wA, DW.wO, DW.wI, List.getElem?_cons_succ, List.getElem?_cons_zero, cmp_eq, cmp_ne, cmp_in, cmp_nin, cmp_lt, cmp_le, cmp_gt, cmp_ge, tru_non, tru_bl, tru_int, tru_tup, op_addi, op_subi, op_muli, op_divi, op_modi, op_powi, op_addt, op_rept, len_tup, len_rol, idx_tup, idx_rol, slc_tup, iter_tup, iter_rol, eqc_int, LIM, Nat.reduceLeDiff, dBlt, dIsi, dInt1, defEnds, startD, List.map_cons, List.map_nil, List.length_cons, List.length_nil, List.replicate_succ, List.replicate_zero, List.cons_append, List.nil_append, Nat.reduceAdd, Nat.reduceSub, isRef, Nat.zero_add, and_true, true_and, if_true, Bool.false_eq_true, if_false, wipeD, kit_tuple d hty]
    have := k S1 (Ext.refl S1)
    rcases bb (isTup d) with ht | ht <;> simp only [ht, if_true, Bool.false_eq_true, if_false] at this ⊢ <;> exact this
  · have hr : RowAt S1 S.length (signs.map tk) := by
      unfold RowAt
      rw [e2, ← signs_map signs hs]
      simp
    refine ⟨16 + 2, ?_⟩
    refine row_while (by omega) 16 S1 S.length (signs.map tk) .non none (by simp; omega) (by simp; omega) hr (fun B hB => none_row hr (by simp; omega) hB) fun S2 a2 old2 y2 row2 e3 r2 l2 h2 => ?_
    simp only [DW.wG, DW.wGs, gsLen, List.set_cons_succ, List.set_cons_zero, wB, wS, DW.wT, DW.wTs, DW.wE, DW.wA, DW.wO, DW.wI, List.getElem?_cons_succ, List.getElem?_cons_zero, cmp_eq, cmp_ne, cmp_in, cmp_nin, cmp_lt, cmp_le, cmp_gt, cmp_ge, tru_non, tru_bl, tru_int, tru_tup, op_addi, op_subi, op_muli, op_divi, op_modi, op_powi, op_addt, op_rept, len_tup, len_rol, idx_tup, idx_rol, slc_tup, iter_tup, iter_rol, eqc_int, LIM, Nat.reduceLeDiff, dBlt, dIsi, dInt1, defEnds, startD, List.map_cons, List.map_nil, List.length_cons, List.length_nil, List.replicate_succ, List.replicate_zero, List.cons_append, List.nil_append, Nat.reduceAdd, Nat.reduceSub, isRef, Nat.zero_add, and_true, true_and, if_true, Bool.false_eq_true, if_false]
    refine dEq_ll (xs := row2.map Tk.toD) (ys := [Tk.x].map Tk.toD) (Ext.app _ _ _ _ r2) (sto_last S2 _) (wk_row _ (by omega)) (wk_row _ (by decide)) ?_
    rw [eqcs_tk, ← h2, ← rowOk_acc signs 0 true hs]
    exact q _ ((e1.trans e3).trans (Ext.app _ _))
end K01

set_option Elab.async false
set_option linter.all false
set_option maxRecDepth 100000
set_option maxHeartbeats 1000000

namespace K01
open PySem PySem.Spec PyProof.Rows L2 DW

theorem Src.ext {S S' : Sto} {n : Nat} (h : Src S n) (e : Ext S S') : Src S' n := by
  obtain ⟨a, b, h, q⟩ := h
  exact ⟨a, b, e _ _ h, q⟩
theorem Src.lt {S : Sto} {n : Nat} (h : Src S n) : n < S.length := by
  obtain ⟨a, b, h, q⟩ := h
  exact (List.getElem?_eq_some_iff.mp h).1
theorem Src.ne {S : Sto} {n : Nat} (h : Src S n) : S.length ≠ n := by
  have := h.lt
  omega

theorem ob__law_source (n : Nat) (ds : List D) (S : Sto) (Q : KQ) (h : lv (n + 1) 1 spSource ds S Q) : wB (fsN n) ir__law_source (defEnds Q) (startD C__law_source.N ds) S := by
  obtain ⟨_, ns, k, rfl, hl, hk, q⟩ := h
  simp only [DW.wG, DW.wGs, gsLen, List.set_cons_succ, List.set_cons_zero, wB, wS, DW.wT, DW.wTs, DW.wE, DW.wA, DW.wO, DW.wI, List.getElem?_cons_succ, List.getElem?_cons_zero, cmp_eq, cmp_ne, cmp_in, cmp_nin, cmp_lt, cmp_le, cmp_gt, cmp_ge, tru_non, tru_bl, tru_int, tru_tup, op_addi, op_subi, op_muli, op_divi, op_modi, op_powi, op_addt, op_rept, len_tup, len_rol, idx_tup, idx_rol, slc_tup, iter_tup, iter_rol, eqc_int, LIM, Nat.reduceLeDiff, dBlt, dIsi, dInt1, defEnds, startD, List.map_cons, List.map_nil, List.length_cons, List.length_nil, List.replicate_succ, List.replicate_zero, List.cons_append, List.nil_append, Nat.reduceAdd, Nat.reduceSub, isRef, Nat.zero_add, and_true, true_and, if_true, Bool.false_eq_true, if_false, ir__law_source, List.length_map]
  -- behind the cell
  have fin : ∀ c : Int, 0 ≤ c → (if decide ((10 : Int) ^ (17 : Int).toNat < c) = true then
      (CMul c 16807 ∧ CMul 10009 (k : Int) ∧ (0 : Int) < 2147483237 ∧ Q (.ref S.length) (S ++ [Ob.lst [.int c, .int ((c * 16807 + 10009 * (k : Int) + 71) % 2147483237)]]))
      else (CMul c 16807 ∧ CMul 10009 (k : Int) ∧ (0 : Int) < 2147483237 ∧ Q (.ref S.length) (S ++ [Ob.lst [.int 0, .int ((c * 16807 + 10009 * (k : Int) + 71) % 2147483237)]]))) := fun c hc => by
    have m1 : CMul c 16807 := .inr ⟨by decide, by decide⟩
    have m2 : CMul 10009 (k : Int) := .inl ⟨by decide, by decide⟩
    have r0 := Int.emod_nonneg (c * 16807 + 10009 * (k : Int) + 71) (show (2147483237 : Int) ≠ 0 by decide)
    have r1 := Int.emod_lt_of_pos (c * 16807 + 10009 * (k : Int) + 71) (show (0 : Int) < 2147483237 by decide)
    split
    · exact ⟨m1, m2, by decide, q _ _ (Ext.app S _) (Nat.le_refl _) ⟨_, _, sto_last S _, hc, r0, r1⟩⟩
    · exact ⟨m1, m2, by decide, q _ _ (Ext.app S _) (Nat.le_refl _) ⟨_, _, sto_last S _, by decide, r0, r1⟩⟩
  by_cases hk2 : (k : Int) < (ns.length : Int)
  · simp only [hk2, decide_true, if_true]
    have hj : k < ns.length := by omega
    refine ⟨.int (ns[k]'hj), atI_nat (xs := ns.map D.int) (j := k) (by rw [List.getElem?_map, List.getElem?_eq_getElem hj]; rfl), ?_⟩
    have := fin (if ns[k]'hj < 0 then -(ns[k]'hj) else ns[k]'hj) (by split <;> omega)
    exact ⟨⟨by decide, by decide, by decide⟩, this⟩
  · simp only [hk2, decide_false, Bool.false_eq_true, if_false]
    have := fin (101 * (k : Int) + 47) (by omega)
    exact ⟨.inl ⟨by decide, by decide⟩, ⟨by decide, by decide, by decide⟩, this⟩
theorem ob__law_draw (n : Nat) (ds : List D) (S : Sto) (Q : KQ) (h : lv (n + 1) 1 spDraw ds S Q) : wB (fsN n) ir__law_draw (defEnds Q) (startD C__law_draw.N ds) S := by
  obtain ⟨_, m, many, rfl, ⟨a, b, hs, ha, hb, hM⟩, h0, h1, q⟩ := h
  simp only [DW.wG, DW.wGs, gsLen, List.set_cons_succ, List.set_cons_zero, wB, wS, DW.wT, DW.wTs, DW.wE, DW.wA, DW.wO, DW.wI, List.getElem?_cons_succ, List.getElem?_cons_zero, cmp_eq, cmp_ne, cmp_in, cmp_nin, cmp_lt, cmp_le, cmp_gt, cmp_ge, tru_non, tru_bl, tru_int, tru_tup, op_addi, op_subi, op_muli, op_divi, op_modi, op_powi, op_addt, op_rept, len_tup, len_rol, idx_tup, idx_rol, slc_tup, iter_tup, iter_rol, eqc_int, LIM, Nat.reduceLeDiff, dBlt, dIsi, dInt1, defEnds, startD, List.map_cons, List.map_nil, List.length_cons, List.length_nil, List.replicate_succ, List.replicate_zero, List.cons_append, List.nil_append, Nat.reduceAdd, Nat.reduceSub, isRef, Nat.zero_add, and_true, true_and, if_true, Bool.false_eq_true, if_false, ir__law_draw]
  rw [idx_ref hs]
  refine ⟨.int a, rfl, ?_⟩
  simp only [cmp_gt]
  have hml : m < S.length := (List.getElem?_eq_some_iff.mp hs).1
  by_cases hp : 0 < a
  · simp only [hp, decide_true, if_true]
    rw [idx_ref hs]
    refine ⟨.int a, rfl, ?_⟩
    simp only [op_modi]
    refine ⟨h0, ?_⟩
    rw [idx_ref hs]
    refine ⟨.int a, rfl, ?_⟩
    simp only [op_divi]
    refine ⟨⟨h0, by omega⟩, ?_⟩
    rw [set_ref hs]
    refine ⟨0, rfl, ?_⟩
    simp only [List.set_cons_zero]
    refine q _ _ (ExtB.set m S _) ⟨a / many, b, sto_set hs, Int.ediv_nonneg ha (by omega), hb, hM⟩ (Int.emod_nonneg _ (by omega)) (Int.emod_lt_of_pos _ h0)
  · simp only [hp, decide_false, Bool.false_eq_true, if_false]
    rw [idx_ref hs]
    refine ⟨.int b, rfl, ?_⟩
    simp only [op_muli, op_addi]
    refine ⟨.inr ⟨by decide, by decide⟩, ?_⟩
    try simp only [dInt1, op_modi]
    refine ⟨by decide, ?_⟩
    rw [set_ref hs]
    refine ⟨1, rfl, ?_⟩
    simp only [List.set_cons_succ, List.set_cons_zero]
    have r0 := Int.emod_nonneg (b * 48271 + 83) (show (2147483237 : Int) ≠ 0 by decide)
    have r1 := Int.emod_lt_of_pos (b * 48271 + 83) (show (0 : Int) < 2147483237 by decide)
    generalize (b * 48271 + 83) % 2147483237 = b1 at r0 r1
    have hs1 : (S.set m (.lst [.int a, .int b1]))[m]? = some (.lst [.int a, .int b1]) := sto_set hs
    rw [idx_ref hs1]
    refine ⟨.int b1, rfl, ?_⟩
    rw [idx_ref hs1]
    refine ⟨.int b1, rfl, ?_⟩
    simp only [op_divi, op_addi, op_muli]
    refine ⟨⟨by decide, by decide⟩, .inl ⟨by omega, by omega⟩, ?_⟩
    try simp only [dInt1, op_modi]
    refine ⟨by decide, ?_⟩
    refine ⟨⟨by decide, by decide⟩, h0, ?_⟩
    exact q _ _ (ExtB.set m S _) ⟨a, b1, hs1, ha, r0, r1⟩ (Int.emod_nonneg _ (by omega)) (Int.emod_lt_of_pos _ h0)
theorem ob__law_choice (n : Nat) (ds : List D) (S : Sto) (Q : KQ) (h : lv (n + 1) 2 spChoice ds S Q) : wB (fsN n) ir__law_choice (defEnds Q) (startD C__law_choice.N ds) S := by
  obtain ⟨hl, m, k, xs, rfl, hs, hne, hx, h0, h1, q⟩ := h
  simp only [DW.wG, DW.wGs, gsLen, List.set_cons_succ, List.set_cons_zero, wB, wS, DW.wT, DW.wTs, DW.wE, DW.wA, DW.wO, DW.wI, List.getElem?_cons_succ, List.getElem?_cons_zero, cmp_eq, cmp_ne, cmp_in, cmp_nin, cmp_lt, cmp_le, cmp_gt, cmp_ge, tru_non, tru_bl, tru_int, tru_tup, op_addi, op_subi, op_muli, op_divi, op_modi, op_powi, op_addt, op_rept, len_tup, len_rol, idx_tup, idx_rol, slc_tup, iter_tup, iter_rol, eqc_int, LIM, Nat.reduceLeDiff, dBlt, dIsi, dInt1, defEnds, startD, List.map_cons, List.map_nil, List.length_cons, List.length_nil, List.replicate_succ, List.replicate_zero, List.cons_append, List.nil_append, Nat.reduceAdd, Nat.reduceSub, isRef, Nat.zero_add, and_true, true_and, if_true, Bool.false_eq_true, if_false, ir__law_choice, f9]
  rw [len_ref hx]
  refine ⟨by omega, m, _, rfl, hs, by omega, by omega, fun S' r e1 s1 r0 r1 => ?_⟩
  show dIdx (.ref k) (.int r) S' Q
  rw [idx_ref (e1.2 _ _ hne hx)]
  obtain ⟨j, rfl⟩ := Int.eq_ofNat_of_zero_le r0
  have hj : j < xs.length := by omega
  have e : xs[j]? = some (xs[j]'hj) := List.getElem?_eq_getElem _
  exact ⟨_, atI_nat e, q S' _ e1 s1 (List.mem_of_getElem? e)⟩
theorem clause_has (r : Int) (c : D) (h0 : 0 ≤ r) (h1 : r < 3) (hc : c ∈ [D.str "a", D.str "b", D.str "both"]) : Clause (.tup [.str "has", .int (1 + r), c]) := by
  have hr : isNum (.int (1 + r)) 1 3 = true := by simp [isNum]; omega
  simp only [List.mem_cons, List.not_mem_nil, or_false] at hc
  constructor
  · have e1 : (w4.any fun z => eqc (D.str "has") z) = false := by decide +kernel
    have e2 : (wh.any fun z => eqc (D.str "has") z) = true := by decide +kernel
    show (if (w4.any fun z => eqc (D.str "has") z) = true then isM (.int (1 + r)) c else (wh.any fun z => eqc (D.str "has") z) && (isNum (.int (1 + r)) 1 3 && isC c)) = true
    have e3 : isC c = true := by rcases hc with rfl | rfl | rfl <;> decide +kernel
    rw [e1, e2, hr, e3]
    rfl
  · intro S
    rcases hc with rfl | rfl | rfl <;> simp [okd] <;> decide +kernel
theorem clause_pair (w p : D) (hw : w ∈ [D.str "all", D.str "some", D.str "no", D.str "allnot"]) (hp : p ∈ [D.tup [D.str "a", D.str "b"], D.tup [D.str "b", D.str "a"]]) : ∃ x y, p = .tup [x, y] ∧ Clause (.tup [w, x, y]) := by
  simp only [List.mem_cons, List.not_mem_nil, or_false] at hw hp
  rcases hp with rfl | rfl <;> refine ⟨_, _, rfl, ?_, fun S => ?_⟩ <;> rcases hw with rfl | rfl | rfl | rfl <;> first | (decide +kernel) | (simp [okd] <;> decide +kernel)
theorem ob__law_clause (n : Nat) (ds : List D) (S : Sto) (Q : KQ) (h : lv (n + 1) 3 spClause ds S Q) : wB (fsN n) ir__law_clause (defEnds Q) (startD C__law_clause.N ds) S := by
  obtain ⟨hl, m, rfl, hs, q⟩ := h
  simp only [DW.wG, DW.wGs, gsLen, List.set_cons_succ, List.set_cons_zero, wB, wS, DW.wT, DW.wTs, DW.wE, DW.wA, DW.wO, DW.wI, List.getElem?_cons_succ, List.getElem?_cons_zero, cmp_eq, cmp_ne, cmp_in, cmp_nin, cmp_lt, cmp_le, cmp_gt, cmp_ge, tru_non, tru_bl, tru_int, tru_tup, op_addi, op_subi, op_muli, op_divi, op_modi, op_powi, op_addt, op_rept, len_tup, len_rol, idx_tup, idx_rol, slc_tup, iter_tup, iter_rol, eqc_int, LIM, Nat.reduceLeDiff, dBlt, dIsi, dInt1, defEnds, startD, List.map_cons, List.map_nil, List.length_cons, List.length_nil, List.replicate_succ, List.replicate_zero, List.cons_append, List.nil_append, Nat.reduceAdd, Nat.reduceSub, isRef, Nat.zero_add, and_true, true_and, if_true, Bool.false_eq_true, if_false, ir__law_clause, f9, f10]
  have e1 := Ext.app S [Ob.lst [D.tup [D.str "a", D.str "b"], D.tup [D.str "b", D.str "a"]]]
  refine ⟨by omega, m, _, _, rfl, hs.ext e1, hs.ne, sto_last S _, by decide, by decide, fun S2 p e2 s2 hp => ?_⟩
  refine ⟨by omega, m, 5, rfl, s2, by decide, by decide, fun S3 r e3 s3 r0 r1 => ?_⟩
  simp only [cmp_lt]
  have E3 := ((e1.b m).trans e2).trans e3
  by_cases hr : r < 2
  · simp only [hr, decide_true, if_true]
    refine ⟨by omega, m, 3, rfl, s3, by decide, by decide, fun S4 r' e4 s4 r0' r1' => ?_⟩
    simp only [op_addi]
    have e5 := Ext.app S4 [Ob.lst [D.str "a", D.str "b", D.str "both"]]
    refine ⟨by omega, m, _, _, rfl, s4.ext e5, s4.ne, sto_last S4 _, by decide, by decide, fun S6 c e6 s6 hc => ?_⟩
    refine q S6 _ (((E3.trans e4).trans (e5.b m)).trans e6) s6 (clause_has r' c r0' r1' hc)
  · simp only [hr, decide_false, Bool.false_eq_true, if_false]
    have e5 := Ext.app S3 [Ob.lst [D.str "all", D.str "some", D.str "no", D.str "allnot"]]
    refine ⟨by omega, m, _, _, rfl, s3.ext e5, s3.ne, sto_last S3 _, by decide, by decide, fun S6 w e6 s6 hw => ?_⟩
    obtain ⟨x, y, rfl, hc⟩ := clause_pair w p hw hp
    simp only [op_addt, LIM]
    refine ⟨by simp, ?_⟩
    exact q S6 _ ((E3.trans (e5.b m)).trans e6) s6 hc
end K01

set_option Elab.async false
set_option linter.all false
set_option maxRecDepth 100000
set_option maxHeartbeats 1000000

namespace K01
open PySem PySem.Spec PyProof.Rows L2 DW

theorem eqc3 (a b c : Bool) : eqc (.tup [.bl a, .bl b, .bl c]) (.tup [.bl a, .bl b, .bl c]) = true := by
  cases a <;> cases b <;> cases c <;> decide +kernel
theorem wk3 (a b c : Bool) : wk (.tup [.bl a, .bl b, .bl c]) = true := by
  cases a <;> cases b <;> cases c <;> decide +kernel
theorem told_body {n : Nat} {E : DEnds} {S : Sto} {v : D} {x y : Option D} (hl : 14 ≤ n) (hf : Fit S v) (hE : ∀ S' y', Ext S S' → E.nx [some v, some (.tup [.bl (isNotice v), .bl (isHouse v), .bl (isNest 10 v)]), x, y', none] S') :
    wB (fsN n) ir__law_told_b0 E [some v, some (.tup [.bl (isNotice v), .bl (isHouse v), .bl (isNest 10 v)]), x, y, none] S := by
  simp only [DW.wG, DW.wGs, gsLen, List.set_cons_succ, List.set_cons_zero, wB, wS, DW.wT, DW.wTs, DW.wE, DW.wA, DW.wO, DW.wI, List.getElem?_cons_succ, List.getElem?_cons_zero, cmp_eq, cmp_ne, cmp_in, cmp_nin, cmp_lt, cmp_le, cmp_gt, cmp_ge, tru_non, tru_bl, tru_int, tru_tup, op_addi, op_subi, op_muli, op_divi, op_modi, op_powi, op_addt, op_rept, len_tup, len_rol, idx_tup, idx_rol, slc_tup, iter_tup, iter_rol, eqc_int, LIM, Nat.reduceLeDiff, dBlt, dIsi, dInt1, defEnds, startD, List.map_cons, List.map_nil, List.length_cons, List.length_nil, List.replicate_succ, List.replicate_zero, List.cons_append, List.nil_append, Nat.reduceAdd, Nat.reduceSub, isRef, Nat.zero_add, and_true, true_and, if_true, Bool.false_eq_true, if_false, ir__law_told_b0, f1, f2, f3]
  refine ⟨by omega, v, rfl, hf, fun S1 e1 => ?_⟩
  refine ⟨by omega, v, rfl, hf.ext e1, fun S2 e2 => ?_⟩
  have e12 := e1.trans e2
  refine ⟨by omega, v, rfl, hf.ext e12, ?_⟩
  simp only [dEq_iff (wk_fit (wk3 (isNotice v) (isHouse v) (isNest 10 v))) (wk3 (isNotice v) (isHouse v) (isNest 10 v)), eqc3]
  simp only [Bool.not_true, Bool.false_eq_true, if_false]
  unfold ir__law_told_l0
  refine keep_lcp (xs := [.bl (isNotice v), .bl (isHouse v), .bl (isNest 10 v)]) (fun d => !isBl d) (by simp) (fun d hd S3 R e3 k => ?_) (fun d hd S3 => by funext R; rfl) (fun S3 e3 h3 => ?_) (by funext R; rfl)
  · have hb : ∃ b, d = .bl b := by
      simp only [List.mem_cons, List.not_mem_nil, or_false] at hd
      rcases hd with rfl | rfl | rfl <;> exact ⟨_, rfl⟩
    obtain ⟨b, rfl⟩ := hb
    simp only [DW.wG, DW.wGs, gsLen, List.set_cons_succ, List.set_cons_zero, wB, wS, DW.wT, DW.wTs, DW.wE, DW.wA, DW.wO, DW.wI, List.getElem?_cons_succ, List.getElem?_cons_zero, cmp_eq, cmp_ne, cmp_in, cmp_nin, cmp_lt, cmp_le, cmp_gt, cmp_ge, tru_non, tru_bl, tru_int, tru_tup, op_addi, op_subi, op_muli, op_divi, op_modi, op_powi, op_addt, op_rept, len_tup, len_rol, idx_tup, idx_rol, slc_tup, iter_tup, iter_rol, eqc_int, LIM, Nat.reduceLeDiff, dBlt, dIsi, dInt1, defEnds, startD, List.map_cons, List.map_nil, List.length_cons, List.length_nil, List.replicate_succ, List.replicate_zero, List.cons_append, List.nil_append, Nat.reduceAdd, Nat.reduceSub, isRef, Nat.zero_add, and_true, true_and, if_true, Bool.false_eq_true, if_false, wipeD, kit_bool (D.bl b) (by intro n z; cases z)]
    first | exact k S3 (Ext.refl S3) | exact ⟨trivial, k S3 (Ext.refl S3)⟩
  · have h3' : S3[S2.length]? = some (.lst []) := by rw [h3]; simp [isBl]
    refine dEq_l0 (xs := []) (Ext.app S3 _ _ _ h3') ?_ (sto_last S3 _) ?_
    · refine ⟨1, 2, by omega, ?_⟩
      simp only [okd, Ext.app S3 [Ob.lst []] _ _ h3']
      rfl
    · simp only [List.isEmpty_nil, Bool.not_true, Bool.false_eq_true, if_false]
      exact hE _ _ (e12.trans (e3.trans (Ext.app S3 _)))
theorem ob__law_told (n : Nat) (ds : List D) (S : Sto) (Q : KQ) (h : lv (n + 1) 15 spTold ds S Q) : wB (fsN n) ir__law_told (defEnds Q) (startD C__law_told.N ds) S := by
  obtain ⟨hl, v, rfl, hf, q⟩ := h
  simp only [DW.wG, DW.wGs, gsLen, List.set_cons_succ, List.set_cons_zero, wB, wS, DW.wT, DW.wTs, DW.wE, DW.wA, DW.wO, DW.wI, List.getElem?_cons_succ, List.getElem?_cons_zero, cmp_eq, cmp_ne, cmp_in, cmp_nin, cmp_lt, cmp_le, cmp_gt, cmp_ge, tru_non, tru_bl, tru_int, tru_tup, op_addi, op_subi, op_muli, op_divi, op_modi, op_powi, op_addt, op_rept, len_tup, len_rol, idx_tup, idx_rol, slc_tup, iter_tup, iter_rol, eqc_int, LIM, Nat.reduceLeDiff, dBlt, dIsi, dInt1, defEnds, startD, List.map_cons, List.map_nil, List.length_cons, List.length_nil, List.replicate_succ, List.replicate_zero, List.cons_append, List.nil_append, Nat.reduceAdd, Nat.reduceSub, isRef, Nat.zero_add, and_true, true_and, if_true, Bool.false_eq_true, if_false, ir__law_told, f18, f19, f20]
  refine ⟨by omega, v, rfl, hf, fun S1 e1 => ?_⟩
  refine ⟨by omega, v, rfl, hf.ext e1, fun S2 e2 => ?_⟩
  have e12 := e1.trans e2
  refine ⟨v, 10, rfl, by omega, hf.ext e12, fun S3 e3 => ?_⟩
  have e13 := e12.trans e3
  refine ⟨⟨by decide, by decide⟩, ?_⟩
  show fLoop _ _ _ _ [D.int (0 + 0), D.int (0 + 1)] _ S3
  refine ⟨trivial, ?_⟩
  show wB (fsN n) ir__law_told_b0 _ [some v, some (.tup [.bl (isNotice v), .bl (isHouse v), .bl (isNest 10 v)]), some (.int (0 + 0)), none, none] S3
  refine told_body (by omega) (hf.ext e13) fun S4 y4 e4 => ⟨trivial, ?_⟩
  show wB (fsN n) ir__law_told_b0 _ [some v, some (.tup [.bl (isNotice v), .bl (isHouse v), .bl (isNest 10 v)]), some (.int (0 + 1)), y4, none] S4
  refine told_body (by omega) (hf.ext (e13.trans e4)) fun S5 y5 e5 => ⟨trivial, ?_⟩
  exact q S5 ((e13.trans e4).trans e5)

/-! ### a formula as the law draws it -/
theorem form_not {j : Nat} {f : D} (h : FormulaG j f) : FormulaG (j + 1) (.tup [.str "not", f]) := by
  refine ⟨?_, fun S => ?_⟩
  · simp only [isNest]
    rw [if_pos (by decide +kernel : eqc (D.str "not") (sD "not") = true)]
    exact h.1
  · have a1 := h.2 S
    have a2 : PyData.strOk (Str.ofString "not") = true := by decide +kernel
    show (decide (2 ≤ 3) && ([D.str "not", f].all (okd 3 (j + 1) S))) = true
    rw [List.all_cons, List.all_cons, a1]
    show (true && (PyData.strOk (Str.ofString "not") && true)) = true
    rw [a2]
    rfl
theorem form_two {j : Nat} {w f g : D} (hw : w ∈ [D.str "and", D.str "or", D.str "if", D.str "other"]) (h1 : FormulaG j f) (h2 : FormulaG j g) : FormulaG (j + 1) (.tup [w, f, g]) := by
  simp only [List.mem_cons, List.not_mem_nil, or_false] at hw
  refine ⟨?_, fun S => ?_⟩
  · have e1 : eqc w (sD "not") = false := by rcases hw with rfl | rfl | rfl | rfl <;> decide +kernel
    have e2 : isP w = true := by rcases hw with rfl | rfl | rfl | rfl <;> decide +kernel
    simp only [isNest, e1, e2, h1.1, h2.1]
    rfl
  · have a1 := h1.2 S
    have a2 := h2.2 S
    have a3 : okd 3 (j + 1) S w = true := by rcases hw with rfl | rfl | rfl | rfl <;> (simp only [okd]; decide +kernel)
    simp only [okd, List.length_cons, List.length_nil, List.all_cons, List.all_nil] at a1 a2 a3 ⊢
    rw [a1, a2, a3]
    rfl
theorem form_cnt {j : Nat} {w c : D} {r : Int} (hw : w ∈ [D.str "least", D.str "just"]) (h0 : 0 ≤ r) (h1 : r < 3) (hc : c ∈ [D.str "a", D.str "b", D.str "both"]) : FormulaG (j + 1) (.tup [w, .int (1 + r), c]) := by
  simp only [List.mem_cons, List.not_mem_nil, or_false] at hw hc
  refine ⟨?_, fun S => ?_⟩
  · have e1 : eqc w (sD "not") = false := by rcases hw with rfl | rfl <;> decide +kernel
    have e2 : isP w = false := by rcases hw with rfl | rfl <;> decide +kernel
    have e3 : (w3.any fun z => eqc w z) = false := by rcases hw with rfl | rfl <;> decide +kernel
    have e4 : (wlj.any fun z => eqc w z) = true := by rcases hw with rfl | rfl <;> decide +kernel
    have e5 : isC c = true := by rcases hc with rfl | rfl | rfl <;> decide +kernel
    have e6 : isNum (.int (1 + r)) 1 3 = true := by simp [isNum]; omega
    simp only [isNest, e1, e2, isTriple, e3, e4, e5, e6]
    rfl
  · have a1 : okd 3 (j + 1) S w = true := by rcases hw with rfl | rfl <;> (simp only [okd]; decide +kernel)
    have a2 : okd 3 (j + 1) S c = true := by rcases hc with rfl | rfl | rfl <;> (simp only [okd]; decide +kernel)
    simp only [okd, List.length_cons, List.length_nil, List.all_cons, List.all_nil] at a1 a2 ⊢
    rw [a1, a2]
    rfl
theorem form_mk {j : Nat} {w p : D} (hw : w ∈ [D.str "all", D.str "some", D.str "no"]) (hp : p ∈ [D.tup [D.str "a", D.str "b"], D.tup [D.str "b", D.str "a"]]) : ∃ x y, p = .tup [x, y] ∧ FormulaG (j + 1) (.tup [w, x, y]) := by
  simp only [List.mem_cons, List.not_mem_nil, or_false] at hw hp
  have e1 : eqc w (sD "not") = false := by rcases hw with rfl | rfl | rfl <;> decide +kernel
  have e2 : isP w = false := by rcases hw with rfl | rfl | rfl <;> decide +kernel
  have e3 : (w3.any fun z => eqc w z) = true := by rcases hw with rfl | rfl | rfl <;> decide +kernel
  have a1 : ∀ S, okd 3 (j + 1) S w = true := fun S => by rcases hw with rfl | rfl | rfl <;> (simp only [okd]; decide +kernel)
  rcases hp with rfl | rfl
  · refine ⟨_, _, rfl, ?_, fun S => ?_⟩
    · have e4 : isM (D.str "a") (D.str "b") = true := by decide +kernel
      simp only [isNest, e1, e2, isTriple, e3, e4]
      rfl
    · have a2 := a1 S
      have b1 : okd 3 (j + 1) S (D.str "a") = true := (by decide +kernel : PyData.strOk (Str.ofString "a") = true)
      have b2 : okd 3 (j + 1) S (D.str "b") = true := (by decide +kernel : PyData.strOk (Str.ofString "b") = true)
      show (decide (3 ≤ 3) && ([w, D.str "a", D.str "b"].all (okd 3 (j + 1) S))) = true
      rw [List.all_cons, List.all_cons, List.all_cons, a2, b1, b2]
      rfl
  · refine ⟨_, _, rfl, ?_, fun S => ?_⟩
    · have e4 : isM (D.str "b") (D.str "a") = true := by decide +kernel
      simp only [isNest, e1, e2, isTriple, e3, e4]
      rfl
    · have a2 := a1 S
      have b1 : okd 3 (j + 1) S (D.str "a") = true := (by decide +kernel : PyData.strOk (Str.ofString "a") = true)
      have b2 : okd 3 (j + 1) S (D.str "b") = true := (by decide +kernel : PyData.strOk (Str.ofString "b") = true)
      show (decide (3 ≤ 3) && ([w, D.str "b", D.str "a"].all (okd 3 (j + 1) S))) = true
      rw [List.all_cons, List.all_cons, List.all_cons, a2, b1, b2]
      rfl
theorem ite_and_not {A B : Bool} {X L : Prop} (h : ¬ (A = true ∧ B = true)) (hL : L) : if A = true then (if B = true then X else L) else L := by
  cases A <;> cases B <;> simp_all
theorem ob__law_formula (n : Nat) (ds : List D) (S : Sto) (Q : KQ) (h : spFormula (n + 1) ds S Q) : wB (fsN n) ir__law_formula (defEnds Q) (startD C__law_formula.N ds) S := by
  obtain ⟨m, j, rfl, h1, h4, hl, hs, q⟩ := h
  simp only [DW.wG, DW.wGs, gsLen, List.set_cons_succ, List.set_cons_zero, wB, wS, DW.wT, DW.wTs, DW.wE, DW.wA, DW.wO, DW.wI, List.getElem?_cons_succ, List.getElem?_cons_zero, cmp_eq, cmp_ne, cmp_in, cmp_nin, cmp_lt, cmp_le, cmp_gt, cmp_ge, tru_non, tru_bl, tru_int, tru_tup, op_addi, op_subi, op_muli, op_divi, op_modi, op_powi, op_addt, op_rept, len_tup, len_rol, idx_tup, idx_rol, slc_tup, iter_tup, iter_rol, eqc_int, LIM, Nat.reduceLeDiff, dBlt, dIsi, dInt1, defEnds, startD, List.map_cons, List.map_nil, List.length_cons, List.length_nil, List.replicate_succ, List.replicate_zero, List.cons_append, List.nil_append, Nat.reduceAdd, Nat.reduceSub, isRef, Nat.zero_add, and_true, true_and, if_true, Bool.false_eq_true, if_false, ir__law_formula, f9, f10, f14]
  refine ⟨by omega, m, 7, rfl, hs, by decide, by decide, fun S1 way e1 s1 w0 w1 => ?_⟩
  obtain ⟨i, rfl⟩ : ∃ i, j = i + 1 := ⟨j - 1, by omega⟩
  have hj1 : ((i + 1 : Nat) : Int) - 1 = (i : Int) := by omega
  have E1 := e1
  simp only [cmp_gt, hj1]
  by_cases hd : decide ((1 : Int) < ((i + 1 : Nat) : Int)) = true ∧ decide (2 < way) = true
  · simp only [hd.1, hd.2, if_true]
    have hi : 1 ≤ i := by have := of_decide_eq_true hd.1; omega
    rw [dEq_iff (fit_int _ _) (wk_int 3), eqc_int]
    by_cases h3 : way = 3
    · simp only [h3, decide_true, if_true]
      refine ⟨m, i, rfl, hi, by omega, by omega, s1, fun S2 f e2 s2 hf => ?_⟩
      exact q S2 _ (e1.trans e2) s2 (form_not hf)
    · simp only [h3, decide_false, Bool.false_eq_true, if_false]
      have e2 := Ext.app S1 [Ob.lst [D.str "and", D.str "or", D.str "if", D.str "other"]]
      refine ⟨by omega, m, _, _, rfl, s1.ext e2, s1.ne, sto_last S1 _, by decide, by decide, fun S3 w e3 s3 hw => ?_⟩
      refine ⟨m, i, rfl, hi, by omega, by omega, s3, fun S4 f e4 s4 hf => ?_⟩
      refine ⟨m, i, rfl, hi, by omega, by omega, s4, fun S5 g e5 s5 hg => ?_⟩
      exact q S5 _ ((((e1.trans (e2.b m)).trans e3).trans e4).trans e5) s5 (form_two hw hf hg)
  · refine ite_and_not hd ?_
    simp only [op_modi]
    refine ⟨by decide, ?_⟩
    rw [dEq_iff (fit_int _ _) (wk_int 0), eqc_int]
    by_cases h2 : way % 2 = 0
    · simp only [h2, decide_true, if_true]
      have e2 := Ext.app S1 [Ob.lst [D.str "least", D.str "just"]]
      refine ⟨by omega, m, _, _, rfl, s1.ext e2, s1.ne, sto_last S1 _, by decide, by decide, fun S3 w e3 s3 hw => ?_⟩
      refine ⟨by omega, m, 3, rfl, s3, by decide, by decide, fun S4 r e4 s4 r0 r1 => ?_⟩
      simp only [op_addi]
      have e5 := Ext.app S4 [Ob.lst [D.str "a", D.str "b", D.str "both"]]
      refine ⟨by omega, m, _, _, rfl, s4.ext e5, s4.ne, sto_last S4 _, by decide, by decide, fun S6 c e6 s6 hc => ?_⟩
      exact q S6 _ (((((e1.trans (e2.b m)).trans e3).trans e4).trans (e5.b m)).trans e6) s6 (form_cnt hw r0 r1 hc)
    · simp only [h2, decide_false, Bool.false_eq_true, if_false]
      have e2 := Ext.app S1 [Ob.lst [D.str "all", D.str "some", D.str "no"]]
      refine ⟨by omega, m, _, _, rfl, s1.ext e2, s1.ne, sto_last S1 _, by decide, by decide, fun S3 w e3 s3 hw => ?_⟩
      have e4 := Ext.app S3 [Ob.lst [D.tup [D.str "a", D.str "b"], D.tup [D.str "b", D.str "a"]]]
      refine ⟨by omega, m, _, _, rfl, s3.ext e4, s3.ne, sto_last S3 _, by decide, by decide, fun S5 p e5 s5 hp => ?_⟩
      obtain ⟨x, y, rfl, hF⟩ := form_mk (j := i) hw hp
      simp only [op_addt, LIM]
      refine ⟨by simp, ?_⟩
      exact q S5 _ ((((e1.trans (e2.b m)).trans e3).trans (e4.b m)).trans e5) s5 hF
end K01

set_option Elab.async false
set_option linter.all false
set_option maxRecDepth 100000
set_option maxHeartbeats 1000000

namespace K01
open PySem PySem.Spec PyProof.Rows L2 DW

theorem msk_ext {m : Nat} {S S' : Sto} (h : ExtB m S S') (hm : m < S.length) : Ext (msk m S) (msk m S') := fun i o e => by
  unfold msk at e ⊢
  by_cases hi : m = i
  · subst hi
    rw [List.getElem?_set_self hm] at e
    rw [List.getElem?_set_self (Nat.lt_of_lt_of_le hm h.1)]
    exact e
  · rw [List.getElem?_set_ne hi] at e ⊢
    exact h.2 i o (Ne.symm hi) e
theorem ty_no {L k : Nat} {S : Sto} {x : String} : okd L k S (.ty x) = false := by cases k <;> rfl
theorem okd_msk {m L : Nat} {S : Sto} : ∀ {k : Nat} {d : D}, okd L k (msk m S) d = true → okd L k S d = true
  | 0, _, h => by cases h
  | k + 1, d, h => by
    cases d with
    | tup ds =>
      simp only [okd, Bool.and_eq_true] at h ⊢
      exact ⟨h.1, all_mono (fun d _ q => okd_msk q) h.2⟩
    | ref i =>
      simp only [okd] at h ⊢
      unfold msk at h
      by_cases hi : m = i
      · subst hi
        by_cases hm : m < S.length
        · rw [List.getElem?_set_self hm] at h
          simp only [List.all_cons, ty_no, Bool.false_and, Bool.and_false] at h
          cases h
        · rw [List.getElem?_eq_none (by simp; omega)] at h
          cases h
      · rw [List.getElem?_set_ne hi] at h
        cases e1 : S[i]? with
        | none => rw [e1] at h; cases h
        | some o =>
          cases o with
          | lst ds =>
            rw [e1] at h
            simp only [Bool.and_eq_true] at h ⊢
            exact ⟨h.1, all_mono (fun d _ q => okd_msk (m := m) (by unfold msk; exact q)) h.2⟩
    | rol _ => cases h
    | ty _ => cases h
    | str z => exact h
    | non => rfl
    | bl b => rfl
    | int i => rfl
theorem cut_lo1 (xs : List D) (i : Nat) : DW.cutD xs none (some ((i : Int) + 1)) = xs.take (i + 1) := cut_lo xs (i + 1)
theorem cut_hi1 (xs : List D) (i : Nat) : DW.cutD xs (some ((i : Int) + 1)) none = xs.drop (i + 1) := cut_hi xs i 1
theorem cut_hi0 (xs : List D) (i : Nat) : DW.cutD xs (some (i : Int)) none = xs.drop i := cut_hi xs i 0
theorem okd_tup {L k : Nat} {S : Sto} {xs : List D} (hl : xs.length ≤ L) (h : ∀ d ∈ xs, okd L k S d = true) : okd L (k + 1) S (.tup xs) = true := by
  simp only [okd, Bool.and_eq_true, decide_eq_true_eq, List.all_eq_true]
  exact ⟨hl, h⟩
theorem bent_tail {n : Nat} {S S1 : Sto} {Q : KQ} {m L k : Nat} {a b c : Option D} (hl : 2 ≤ n) (hk : 1 ≤ k) (hL : 16 ≤ L) (e1 : ExtB m S S1) (s1 : Src S1 m) (hm : m < S.length) (q : ∀ S' v', ExtB m S S' → Src S' m → okd (L + 1) (k + 2) (msk m S') v' = true → Q v' S') :
    wB (fsN n) (match ir__law_bent with
      | .cons _ (.cons _ r) => r
      | _ => .nil) (defEnds Q) [some (.ref m), a, b, none, none, none] S1 := by
  simp only [DW.wG, DW.wGs, gsLen, List.set_cons_succ, List.set_cons_zero, wB, wS, DW.wT, DW.wTs, DW.wE, DW.wA, DW.wO, DW.wI, List.getElem?_cons_succ, List.getElem?_cons_zero, cmp_eq, cmp_ne, cmp_in, cmp_nin, cmp_lt, cmp_le, cmp_gt, cmp_ge, tru_non, tru_bl, tru_int, tru_tup, op_addi, op_subi, op_muli, op_divi, op_modi, op_powi, op_addt, op_rept, len_tup, len_rol, idx_tup, idx_rol, slc_tup, iter_tup, iter_rol, eqc_int, LIM, Nat.reduceLeDiff, dBlt, dIsi, dInt1, defEnds, startD, List.map_cons, List.map_nil, List.length_cons, List.length_nil, List.replicate_succ, List.replicate_zero, List.cons_append, List.nil_append, Nat.reduceAdd, Nat.reduceSub, isRef, Nat.zero_add, and_true, true_and, if_true, Bool.false_eq_true, if_false, ir__law_bent, f10]
  refine ⟨⟨by decide, by decide, by decide⟩, ⟨by decide, by decide, by decide⟩, ?_⟩
  have hA : ∀ x ∈ [D.non, D.bl true, D.int 0, D.int 1, D.int 3, D.int 4, D.int (-1), D.int (10 ^ Int.toNat 30), D.int (10 ^ Int.toNat 30 + 1), D.str "", D.str "a", D.str "both", D.str "and", D.str "or", D.str "not"], okd 16 3 [] x = true :=
    List.all_eq_true.mp (by decide +kernel)
  have hAl : [D.non, D.bl true, D.int 0, D.int 1, D.int 3, D.int 4, D.int (-1), D.int (10 ^ Int.toNat 30), D.int (10 ^ Int.toNat 30 + 1), D.str "", D.str "a", D.str "both", D.str "and", D.str "or", D.str "not"].length = 15 := rfl
  have hC : ∀ x ∈ [D.str "has", D.str "least", D.tup [D.str "no", D.str "b", D.str "a"], D.tup [D.str "has", D.int 2, D.str "a"], D.tup [D.str "just", D.int 2, D.str "a"], D.str "if"], okd 16 3 [] x = true :=
    List.all_eq_true.mp (by decide +kernel)
  have hB : ∀ x ∈ [D.str "(", D.str ")", D.tup []], okd 16 3 [] x = true := List.all_eq_true.mp (by decide +kernel)
  generalize [D.non, D.bl true, D.int 0, D.int 1, D.int 3, D.int 4, D.int (-1), D.int (10 ^ Int.toNat 30), D.int (10 ^ Int.toNat 30 + 1), D.str "", D.str "a", D.str "both", D.str "and", D.str "or", D.str "not"] = A at hA hAl ⊢
  have e2 := (Ext.app S1 [Ob.lst A]).trans (Ext.app _ [Ob.lst []])
  have hp : (S1 ++ [Ob.lst A] ++ [Ob.lst []])[(S1 ++ [Ob.lst A]).length]? = some (.lst []) := sto_last _ _
  have hpl : S1.length ≤ (S1 ++ [Ob.lst A]).length := by simp
  generalize hpp : (S1 ++ [Ob.lst A]).length = p at hp hpl ⊢
  have hA1 : (S1 ++ [Ob.lst A] ++ [Ob.lst []])[S1.length]? = some (.lst A) := Ext.app _ _ _ _ (sto_last S1 _)
  generalize S1 ++ [Ob.lst A] ++ [Ob.lst []] = S2 at e2 hp hA1 ⊢
  rw [op_addl (Ext.app S2 _ _ _ hA1) (sto_last S2 _)]
  refine ⟨by rw [hAl]; simp only [List.length_cons, List.length_nil, LIM]; omega, ?_⟩
  have e3 := (Ext.app S2 [Ob.lst [D.str "(", D.str ")", D.tup [], D.ref p]]).trans (Ext.app _ [Ob.lst (A ++ [D.str "(", D.str ")", D.tup [], D.ref p])])
  have hq : (S2 ++ [Ob.lst [D.str "(", D.str ")", D.tup [], D.ref p]] ++ [Ob.lst (A ++ [D.str "(", D.str ")", D.tup [], D.ref p])])[(S2 ++ [Ob.lst [D.str "(", D.str ")", D.tup [], D.ref p]]).length]? = some (.lst (A ++ [D.str "(", D.str ")", D.tup [], D.ref p])) := sto_last _ _
  generalize (S2 ++ [Ob.lst [D.str "(", D.str ")", D.tup [], D.ref p]]).length = i1 at hq ⊢
  generalize S2 ++ [Ob.lst [D.str "(", D.str ")", D.tup [], D.ref p]] ++ [Ob.lst (A ++ [D.str "(", D.str ")", D.tup [], D.ref p])] = S3 at e3 hq ⊢
  rw [op_addl (Ext.app S3 _ _ _ hq) (sto_last S3 _)]
  refine ⟨by rw [List.length_append, hAl]; simp only [List.length_cons, List.length_nil, LIM]; omega, ?_⟩
  have e4 := Ext.app S3 [Ob.lst [D.str "has", D.str "least", D.tup [D.str "no", D.str "b", D.str "a"], D.tup [D.str "has", D.int 2, D.str "a"], D.tup [D.str "just", D.int 2, D.str "a"], D.str "if"]]
  have s2 := s1.ext (e2.trans (e3.trans e4))
  refine ⟨by omega, m, _, _, rfl, s2.ext (Ext.app _ _), s2.ne, sto_last _ _, by simp, by simp; omega, fun S5 x e5 s5 hx => ?_⟩
  have E : ExtB m S S5 := (e1.trans ((e2.trans (e3.trans e4)).b m)).trans (((Ext.app _ _).b m).trans e5)
  refine q S5 x E s5 ?_
  have free : ∀ y, okd 16 3 [] y = true → okd (L + 1) (k + 2) (msk m S5) y = true := fun y hy => okd_mono (by omega) (by omega) (okd_ext (fun n o e => by cases e) hy)
  rcases List.mem_append.mp hx with hx | hx
  · rcases List.mem_append.mp hx with hx | hx
    · exact free x (hA x hx)
    · simp only [List.mem_cons, List.not_mem_nil, or_false] at hx
      rcases hx with rfl | rfl | rfl | rfl
      · exact free _ (hB _ (by simp))
      · exact free _ (hB _ (by simp))
      · exact free _ (hB _ (by simp))
      · have h5 : S5[p]? = some (.lst []) := e5.2 _ _ (by have := s1.lt; omega) (Ext.app _ _ _ _ (e4 _ _ (e3 _ _ hp)))
        have h6 : (msk m S5)[p]? = some (.lst []) := by
          unfold msk
          rw [List.getElem?_set_ne (by have := s1.lt; omega)]
          exact h5
        simp only [okd, h6]
        simp
  · exact free x (hC x hx)
theorem ob__law_bent (n : Nat) (ds : List D) (S : Sto) (Q : KQ) (h : spBent (n + 1) ds S Q) : wB (fsN n) ir__law_bent (defEnds Q) (startD C__law_bent.N ds) S := by
  obtain ⟨m, v, L, k, rfl, hl, hs, hv, hL, hL2, hk, q⟩ := h
  have hm := hs.lt
  have hf : Fit S v := ⟨L, k, by omega, okd_msk hv⟩
  have hty := hf.nty
  have hk1 : 1 ≤ k := by cases k <;> first | cases hv | omega
  have tail : ∀ S1 b, ExtB m S S1 → Src S1 m → wB (fsN n) (match ir__law_bent with
      | .cons _ (.cons _ r) => r
      | _ => .nil) (defEnds Q) [some (.ref m), some v, b, none, none, none] S1 := fun S1 b e1 s1 => bent_tail (c := none) (by omega) hk1 hL e1 s1 hm q
  simp only [DW.wG, DW.wGs, gsLen, List.set_cons_succ, List.set_cons_zero, wB, wS, DW.wT, DW.wTs, DW.wE, DW.wA, DW.wO, DW.wI, List.getElem?_cons_succ, List.getElem?_cons_zero, cmp_eq, cmp_ne, cmp_in, cmp_nin, cmp_lt, cmp_le, cmp_gt, cmp_ge, tru_non, tru_bl, tru_int, tru_tup, op_addi, op_subi, op_muli, op_divi, op_modi, op_powi, op_addt, op_rept, len_tup, len_rol, idx_tup, idx_rol, slc_tup, iter_tup, iter_rol, eqc_int, LIM, Nat.reduceLeDiff, dBlt, dIsi, dInt1, defEnds, startD, List.map_cons, List.map_nil, List.length_cons, List.length_nil, List.replicate_succ, List.replicate_zero, List.cons_append, List.nil_append, Nat.reduceAdd, Nat.reduceSub, isRef, Nat.zero_add, and_true, true_and, if_true, Bool.false_eq_true, if_false, ir__law_bent, f10] at tail
  simp only [DW.wG, DW.wGs, gsLen, List.set_cons_succ, List.set_cons_zero, wB, wS, DW.wT, DW.wTs, DW.wE, DW.wA, DW.wO, DW.wI, List.getElem?_cons_succ, List.getElem?_cons_zero, cmp_eq, cmp_ne, cmp_in, cmp_nin, cmp_lt, cmp_le, cmp_gt, cmp_ge, tru_non, tru_bl, tru_int, tru_tup, op_addi, op_subi, op_muli, op_divi, op_modi, op_powi, op_addt, op_rept, len_tup, len_rol, idx_tup, idx_rol, slc_tup, iter_tup, iter_rol, eqc_int, LIM, Nat.reduceLeDiff, dBlt, dIsi, dInt1, defEnds, startD, List.map_cons, List.map_nil, List.length_cons, List.length_nil, List.replicate_succ, List.replicate_zero, List.cons_append, List.nil_append, Nat.reduceAdd, Nat.reduceSub, isRef, Nat.zero_add, and_true, true_and, if_true, Bool.false_eq_true, if_false, ir__law_bent, kit_tuple v hty, f9, f10, f21, dEq_iff hf wk_nil]
  refine ⟨by omega, m, 8, rfl, hs, by decide, by decide, fun S1 way e1 s1 w0 w1 => ?_⟩
  have hv1 : okd L k (msk m S1) v = true := okd_ext (msk_ext e1 hm) hv
  have hf1 : Fit S1 v := ⟨L, k, by omega, okd_msk hv1⟩
  have tail1 := fun b => tail S1 b e1 s1
  rcases bb (isTup v) with ht | ht
  · cases v with
    | tup xs =>
      obtain ⟨k', rfl⟩ : ∃ k', k = k' + 1 := ⟨k - 1, by omega⟩
      have hx : xs.length ≤ L ∧ ∀ d ∈ xs, okd L k' (msk m S1) d = true := by
        have h := hv1
        simp only [okd, Bool.and_eq_true, decide_eq_true_eq, List.all_eq_true] at h
        exact h
      simp only [ht, if_true]
      rw [dEq_iff hf1 wk_nil]
      cases xs with
      | nil =>
        simp only [eqc_nil_nil, Bool.not_true, Bool.false_eq_true, if_false]
        exact tail1 none
      | cons x0 r =>
        simp only [eqc_nil_cons, Bool.not_false, if_true, cmp_gt]
        by_cases hw : 0 < way
        · simp only [hw, decide_true, if_true, len_tup]
          refine ⟨by omega, m, _, rfl, s1, by simp only [List.length_cons]; omega, by omega, fun S2 at' e2 s2 a0 a1 => ?_⟩
          obtain ⟨at_, rfl⟩ := Int.eq_ofNat_of_zero_le a0
          have hat : at_ < (x0 :: r).length := by omega
          have hl3 : r.length + 1 ≤ L := hx.1
          have hat3 : at_ < r.length + 1 := hat
          have E2 := e1.trans e2
          have hx2 : ∀ d ∈ (x0 :: r), okd L k' (msk m S2) d = true := fun d hd => okd_ext (msk_ext e2 s1.lt) (hx.2 d hd)
          have up : ∀ {S' : Sto} {d : D}, okd L k' (msk m S') d = true → okd (L + 1) (k' + 2) (msk m S') d = true := fun h => okd_mono (by omega) (by omega) h
          rw [dEq_iff (fit_int _ _) (wk_int 1), eqc_int]
          by_cases h1 : way = 1
          · simp only [h1, decide_true, if_true, slc_tup, op_addi, cut_lo, cut_hi1, op_addt, LIM]
            refine ⟨by simp only [List.length_take, List.length_drop]; omega, ?_⟩
            refine q S2 _ E2 s2 (okd_tup (by simp only [List.length_append, List.length_take, List.length_drop]; omega) fun d hd => up (hx2 d ?_))
            exact (List.mem_append.mp hd).elim (fun z => List.mem_of_mem_take z) fun z => List.mem_of_mem_drop z
          · simp only [h1, decide_false, Bool.false_eq_true, if_false]
            rw [dEq_iff (fit_int _ _) (wk_int 2), eqc_int]
            by_cases h2 : way = 2
            · simp only [h2, decide_true, if_true, slc_tup, op_addi, cut_lo1, cut_hi0, op_addt, LIM]
              refine ⟨by simp only [List.length_take, List.length_drop]; omega, ?_⟩
              refine q S2 _ E2 s2 (okd_tup (by simp only [List.length_append, List.length_take, List.length_drop]; omega) fun d hd => up (hx2 d ?_))
              exact (List.mem_append.mp hd).elim (fun z => List.mem_of_mem_take z) fun z => List.mem_of_mem_drop z
            · simp only [h2, decide_false, Bool.false_eq_true, if_false]
              rw [dEq_iff (fit_int _ _) (wk_int 3), eqc_int]
              by_cases h3 : way = 3
              · simp only [h3, decide_true, if_true]
                have e3 := Ext.app S2 [Ob.lst [D.str "not", D.str "and", D.str "(", D.str ")", D.tup [D.str "all", D.str "a", D.str "b"]]]
                refine ⟨by omega, m, _, _, rfl, s2.ext e3, s2.ne, sto_last S2 _, by simp, by simp, fun S4 sg e4 s4 hsg => ?_⟩
                simp only [slc_tup, cut_lo, cut_hi0, op_addt, LIM]
                refine ⟨by simp only [List.length_take, List.length_cons, List.length_nil]; omega, by simp only [List.length_append, List.length_take, List.length_drop, List.length_cons, List.length_nil]; omega, ?_⟩
                have e34 := (e3.b m).trans e4
                have hsg2 : okd (L + 1) (k' + 2) (msk m S4) sg = true := by
                  have : ∀ y ∈ [D.str "not", D.str "and", D.str "(", D.str ")", D.tup [D.str "all", D.str "a", D.str "b"]], okd 16 2 [] y = true := List.all_eq_true.mp (by decide +kernel)
                  exact okd_mono (by omega) (by omega) (okd_ext (fun n o e => by cases e) (this sg hsg))
                refine q S4 _ (E2.trans e34) s4 (okd_tup (by simp only [List.length_append, List.length_take, List.length_drop, List.length_cons, List.length_nil]; omega) fun d hd => ?_)
                have old : ∀ d ∈ (x0 :: r), okd (L + 1) (k' + 2) (msk m S4) d = true := fun d hd => up (okd_ext (msk_ext e34 s2.lt) (hx2 d hd))
                rcases List.mem_append.mp hd with hd | hd
                · rcases List.mem_append.mp hd with hd | hd
                  · exact old d (List.mem_of_mem_take hd)
                  · rw [List.mem_singleton.mp hd]; exact hsg2
                · exact old d (List.mem_of_mem_drop hd)
              · simp only [h3, decide_false, Bool.false_eq_true, if_false, slc_tup, op_addi, cut_lo, cut_hi1, idx_tup]
                have e5 : (x0 :: r)[at_]? = some ((x0 :: r)[at_]'hat) := List.getElem?_eq_getElem _
                refine ⟨_, atI_nat e5, ?_⟩
                have hy := hx2 _ (List.mem_of_getElem? e5)
                generalize (x0 :: r)[at_]'hat = y at hy
                refine ⟨m, y, L, k', rfl, by omega, s2, hy, hL, hL2, by omega, fun S4 y' e4 s4 hy' => ?_⟩
                simp only [op_addt, LIM]
                refine ⟨by simp only [List.length_take, List.length_cons, List.length_nil]; omega, by simp only [List.length_append, List.length_take, List.length_drop, List.length_cons, List.length_nil]; omega, ?_⟩
                have old : ∀ d ∈ (x0 :: r), okd (L + 1) (k' + 2) (msk m S4) d = true := fun d hd => up (okd_ext (msk_ext e4 s2.lt) (hx2 d hd))
                refine q S4 _ (E2.trans e4) s4 (okd_tup (by simp only [List.length_append, List.length_take, List.length_drop, List.length_cons, List.length_nil]; omega) fun d hd => ?_)
                rcases List.mem_append.mp hd with hd | hd
                · rcases List.mem_append.mp hd with hd | hd
                  · exact old d (List.mem_of_mem_take hd)
                  · rw [List.mem_singleton.mp hd]; exact hy'
                · exact old d (List.mem_of_mem_drop hd)
        · simp only [hw, decide_false, Bool.false_eq_true, if_false]
          exact tail1 none
    | _ => cases ht
  · simp only [ht, Bool.false_eq_true, if_false]
    exact tail1 none
end K01

set_option Elab.async false
set_option linter.all false
set_option maxRecDepth 100000
set_option maxHeartbeats 1000000

namespace K01
open PySem PySem.Spec PyProof.Rows L2 DW

/-! ### parts of a notice -/
structure Prt (c l : Nat) (ds : List D) : Prop where
  sg : ∀ d ∈ ds, isSign d = true ∧ ∀ S, okd 3 2 S d = true
  cl : (ds.filter isTup).length ≤ c
  ln : ds.length ≤ l
  pt : ∀ (k : Int) (r : List D), 0 ≤ k → rowOk k true (ds ++ r) = rowOk k false r
  ne : 0 < ds.length
theorem sign_str {x : String} (h : isSign (D.str (Str.ofString x)) = true) (h2 : PyData.strOk (Str.ofString x) = true) : isSign (D.str (Str.ofString x)) = true ∧ ∀ S, okd 3 2 S (D.str (Str.ofString x)) = true := ⟨h, fun _ => h2⟩
theorem sg_not : isSign (D.str "not") = true ∧ ∀ S, okd 3 2 S (D.str "not") = true := sign_str (by decide +kernel) (by decide +kernel)
theorem sg_op : isSign (D.str "(") = true ∧ ∀ S, okd 3 2 S (D.str "(") = true := sign_str (by decide +kernel) (by decide +kernel)
theorem sg_cl : isSign (D.str ")") = true ∧ ∀ S, okd 3 2 S (D.str ")") = true := sign_str (by decide +kernel) (by decide +kernel)
theorem clause_tup {c : D} (h : Clause c) : isTup c = true := by
  have := h.1
  unfold isTriple at this
  split at this
  · rfl
  · cases this
theorem clause_sign {c : D} (h : Clause c) : isSign c = true := by
  have ht := clause_tup h
  unfold isSign
  cases c with
  | tup ds => exact h.1
  | _ => cases ht
theorem prt_clause {c : D} (h : Clause c) : Prt 1 1 [c] := by
  have ht := clause_tup h
  refine ⟨fun d hd => by rw [List.mem_singleton.mp hd]; exact ⟨clause_sign h, h.2⟩, List.length_filter_le _ _, Nat.le_refl _, fun k r hk => ?_, by simp⟩
  cases c with
  | tup ds =>
    show rowOk k true (.tup ds :: r) = _
    conv => lhs; unfold rowOk
    rw [step_tup]
    rfl
  | _ => cases ht
theorem prt_not {c l : Nat} {ds : List D} (h : Prt c l ds) : Prt c (l + 1) ([D.str "not"] ++ ds) := by
  refine ⟨fun d hd => ?_, ?_, ?_, fun k r hk => ?_, by simp⟩
  · rcases List.mem_append.mp hd with hd | hd
    · rw [List.mem_singleton.mp hd]; exact sg_not
    · exact h.sg d hd
  · rw [List.filter_append]
    have : ([D.str "not"].filter isTup) = [] := rfl
    rw [this]
    exact h.cl
  · have := h.ln
    simp only [List.length_append, List.length_cons, List.length_nil]; omega
  · show rowOk k true (Tk.nt.toD :: (ds ++ r)) = _
    conv => lhs; unfold rowOk
    rw [step_tk k true .nt (by decide)]
    exact h.pt k r hk
theorem jt_tk {w : D} (h : w ∈ jts) : ∃ t : Tk, t.isj = true ∧ w = t.toD := by
  simp only [jts, List.mem_cons, List.not_mem_nil, or_false] at h
  rcases h with rfl | rfl | rfl | rfl
  · exact ⟨.ja, rfl, rfl⟩
  · exact ⟨.jo, rfl, rfl⟩
  · exact ⟨.ju, rfl, rfl⟩
  · exact ⟨.ji, rfl, rfl⟩
theorem jt_sg {t : Tk} (h : t.isj = true) : (isSign t.toD = true ∧ ∀ S, okd 3 2 S t.toD = true) ∧ isTup t.toD = false := by
  cases t <;> first | (exact absurd h (by decide)) | exact ⟨sign_str (by decide +kernel) (by decide +kernel), rfl⟩
theorem prt_join {c1 l1 c2 l2 : Nat} {ds es : List D} {w : D} (h1 : Prt c1 l1 ds) (hw : w ∈ jts) (h2 : Prt c2 l2 es) : Prt (c1 + c2) (l1 + 1 + l2) (ds ++ [w] ++ es) := by
  obtain ⟨t, ht, rfl⟩ := jt_tk hw
  obtain ⟨g1, g2⟩ := jt_sg ht
  refine ⟨fun d hd => ?_, ?_, ?_, fun k r hk => ?_, ?_⟩
  · rcases List.mem_append.mp hd with hd | hd
    · rcases List.mem_append.mp hd with hd | hd
      · exact h1.sg d hd
      · rw [List.mem_singleton.mp hd]; exact g1
    · exact h2.sg d hd
  · rw [List.filter_append, List.filter_append]
    have : ([t.toD].filter isTup) = [] := by simp [g2]
    rw [this]
    have a := h1.cl
    have b := h2.cl
    simp only [List.length_append, List.length_nil]; omega
  · have a := h1.ln
    have b := h2.ln
    simp only [List.length_append, List.length_cons, List.length_nil]; omega
  · rw [List.append_assoc, List.append_assoc, h1.pt k _ hk]
    show rowOk k false (t.toD :: (es ++ r)) = _
    conv => lhs; unfold rowOk
    rw [step_tk k false t (by cases t <;> first | decide | (exact absurd ht (by decide)))]
    cases t <;> first | (exact absurd ht (by decide)) | exact h2.pt k r hk
  · have := h1.ne
    simp only [List.length_append]; omega
theorem prt_br {c l : Nat} {ds : List D} (h : Prt c l ds) : Prt c (l + 2) ([D.str "("] ++ ds ++ [D.str ")"]) := by
  refine ⟨fun d hd => ?_, ?_, ?_, fun k r hk => ?_, by simp⟩
  · rcases List.mem_append.mp hd with hd | hd
    · rcases List.mem_append.mp hd with hd | hd
      · rw [List.mem_singleton.mp hd]; exact sg_op
      · exact h.sg d hd
    · rw [List.mem_singleton.mp hd]; exact sg_cl
  · rw [List.filter_append, List.filter_append]
    have e1 : ([D.str "("].filter isTup) = [] := rfl
    have e2 : ([D.str ")"].filter isTup) = [] := rfl
    rw [e1, e2]
    have := h.cl
    simpa using this
  · have := h.ln
    simp only [List.length_append, List.length_cons, List.length_nil]; omega
  · rw [List.append_assoc, List.append_assoc]
    show rowOk k true (Tk.op.toD :: (ds ++ ([D.str ")"] ++ r))) = _
    conv => lhs; unfold rowOk
    rw [step_tk k true .op (by decide)]
    simp only [if_true]
    rw [h.pt (k + 1) _ (by omega)]
    show rowOk (k + 1) false (Tk.cl.toD :: r) = _
    conv => lhs; unfold rowOk
    rw [step_tk (k + 1) false .cl (by decide)]
    have : (0 : Int) < k + 1 := by omega
    simp only [Bool.false_eq_true, if_false, this, if_true]
    rw [show k + 1 - 1 = k from by omega]
theorem prt_notice {c l : Nat} {ds : List D} (h : Prt c l ds) (hc : c ≤ 4) (hl : l ≤ 16) : NoticeG (.tup ds) := by
  have a := h.cl
  have b := h.ln
  have n := h.ne
  constructor
  · unfold isNotice
    have e := h.pt 0 [] (by omega)
    rw [List.append_nil] at e
    have e1 : decide (1 ≤ ds.length) = true := decide_eq_true (by omega)
    have e2 : decide (ds.length ≤ 16) = true := decide_eq_true (by omega)
    have e3 : ds.all isSign = true := List.all_eq_true.mpr fun d hd => (h.sg d hd).1
    have e4 : decide ((ds.filter isTup).length ≤ 4) = true := decide_eq_true (by omega)
    show ((decide (1 ≤ ds.length) && decide (ds.length ≤ 16)) && (ds.all isSign && (decide ((ds.filter isTup).length ≤ 4) && rowOk 0 true ds))) = true
    rw [e1, e2, e3, e4, e]
    rfl
  · intro S
    exact okd_tup (by omega) fun d hd => okd_mono (by omega) (Nat.le_refl _) ((h.sg d hd).2 S)
/-- several parts -/
inductive Pts : Nat → Nat → List D → Prop
  | nil : Pts 0 0 []
  | cons {c l c' l' : Nat} {ds : List D} {xs : List D} : Prt c l ds → Pts c' l' xs → Pts (c + c') (l + 1 + l') (.tup ds :: xs)
/-- small parts -/
def Uni (xs : List D) : Prop := ∀ x ∈ xs, ∃ ds, x = .tup ds ∧ Prt 1 2 ds
theorem uni_pts : ∀ {xs : List D}, Uni xs → Pts xs.length (3 * xs.length) xs
  | [], _ => .nil
  | x :: xs, h => by
    obtain ⟨ds, rfl, p⟩ := h x List.mem_cons_self
    have q := uni_pts (xs := xs) fun z hz => h z (List.mem_cons_of_mem _ hz)
    have := Pts.cons p q
    rw [show 1 + xs.length = (D.tup ds :: xs).length from by simp; omega, show 2 + 1 + 3 * xs.length = 3 * (D.tup ds :: xs).length from by simp; omega] at this
    exact this
theorem pts_app {c l c' l' : Nat} {xs ys : List D} (h : Pts c l xs) (h2 : Pts c' l' ys) : Pts (c + c') (l + l') (xs ++ ys) := by
  induction h with
  | nil => simpa using h2
  | @cons c1 l1 c2 l2 ds zs p q ih =>
    have := Pts.cons p ih
    rw [show c1 + (c2 + c') = c1 + c2 + c' from by omega, show l1 + 1 + (l2 + l') = l1 + 1 + l2 + l' from by omega] at this
    exact this

/-- all but two objects stand as before -/
def Ext2 (m p : Nat) (S S' : Sto) : Prop := S.length ≤ S'.length ∧ ∀ (i : Nat) (o : Ob), i ≠ m → i ≠ p → S[i]? = some o → S'[i]? = some o
theorem Ext2.refl (m p : Nat) (S : Sto) : Ext2 m p S S := ⟨Nat.le_refl _, fun _ _ _ _ h => h⟩
theorem Ext2.trans {m p : Nat} {S S1 S2 : Sto} (a : Ext2 m p S S1) (b : Ext2 m p S1 S2) : Ext2 m p S S2 := ⟨Nat.le_trans a.1 b.1, fun i o h1 h2 h => b.2 i o h1 h2 (a.2 i o h1 h2 h)⟩
theorem Ext2.of {m p : Nat} {S S' : Sto} (a : ExtB m S S') : Ext2 m p S S' := ⟨a.1, fun i o h1 _ h => a.2 i o h1 h⟩
theorem Ext2.set (m p : Nat) (S : Sto) (o : Ob) : Ext2 m p S (S.set p o) := ⟨by simp, fun i u _ h2 h => by rw [List.getElem?_set_ne (Ne.symm h2)]; exact h⟩
theorem Ext2.b {m p : Nat} {S0 S S' : Sto} (a : ExtB m S0 S) (b : Ext2 m p S S') (h : S0.length ≤ p) : ExtB m S0 S' := ⟨Nat.le_trans a.1 b.1, fun i o hi e => b.2 i o hi (by have := (List.getElem?_eq_some_iff.mp e).1; omega) (a.2 i o hi e)⟩
theorem Src.set {S : Sto} {m p : Nat} (h : Src S m) (hp : p ≠ m) (o : Ob) : Src (S.set p o) m := by
  obtain ⟨a, b, h, q⟩ := h
  exact ⟨a, b, by rw [List.getElem?_set_ne hp]; exact h, q⟩
theorem Prt.mono {c l c' l' : Nat} {ds : List D} (h : Prt c l ds) (hc : c ≤ c') (hl : l ≤ l') : Prt c' l' ds := ⟨h.sg, Nat.le_trans h.cl hc, Nat.le_trans h.ln hl, h.pt, h.ne⟩
theorem not_b1 {n : Nat} {E : DEnds} {S : Sto} {m p : Nat} {xs : List D} {mo x3 x4 x5 x6 x7 x8 : Option D} (hl : 3 ≤ n) (hs : Src S m) (hp : p ≠ m) (hx : S[p]? = some (.lst xs)) (hlen : xs.length ≤ 10)
    (hE : ∀ S' x4' ds, Ext2 m p S S' → Src S' m → Prt 1 2 ds → S'[p]? = some (.lst (xs ++ [.tup ds])) → E.nx [some (.ref m), mo, some (.ref p), x3, x4', x5, x6, x7, x8] S') :
    wB (fsN n) ir__law_notice_b1 E [some (.ref m), mo, some (.ref p), x3, x4, x5, x6, x7, x8] S := by
  simp only [DW.wG, DW.wGs, gsLen, List.set_cons_succ, List.set_cons_zero, wB, wS, DW.wT, DW.wTs, DW.wE, DW.wA, DW.wO, DW.wI, List.getElem?_cons_succ, List.getElem?_cons_zero, cmp_eq, cmp_ne, cmp_in, cmp_nin, cmp_lt, cmp_le, cmp_gt, cmp_ge, tru_non, tru_bl, tru_int, tru_tup, op_addi, op_subi, op_muli, op_divi, op_modi, op_powi, op_addt, op_rept, len_tup, len_rol, idx_tup, idx_rol, slc_tup, iter_tup, iter_rol, eqc_int, LIM, Nat.reduceLeDiff, dBlt, dIsi, dInt1, defEnds, startD, List.map_cons, List.map_nil, List.length_cons, List.length_nil, List.replicate_succ, List.replicate_zero, List.cons_append, List.nil_append, Nat.reduceAdd, Nat.reduceSub, isRef, Nat.zero_add, and_true, true_and, if_true, Bool.false_eq_true, if_false, ir__law_notice_b1, f9, f12]
  refine ⟨by omega, m, rfl, hs, fun S1 c e1 s1 hc => ?_⟩
  refine ⟨by omega, m, 4, rfl, s1, by decide, by decide, fun S2 r e2 s2 r0 r1 => ?_⟩
  have E2 := e1.trans e2
  have hx2 := E2.2 _ _ hp hx
  -- behind the append
  have fin : ∀ ds, Prt 1 2 ds → E.nx [some (.ref m), mo, some (.ref p), x3, some (.tup ds), x5, x6, x7, x8] (S2.set p (.lst (xs ++ [.tup ds]))) := fun ds hds =>
    hE _ _ ds ((Ext2.of E2).trans (Ext2.set m p S2 _)) (s2.set hp _) hds (sto_set hx2)
  simp only [dEq_iff (fit_int S2 r) (wk_int 0), eqc_int]
  by_cases h0 : r = 0
  · simp only [h0, decide_true, if_true]
    rw [app_ref hx2]
    exact ⟨by simp only [LIM]; omega, fin _ (prt_not (prt_clause hc))⟩
  · simp only [h0, decide_false, Bool.false_eq_true, if_false]
    rw [app_ref hx2]
    exact ⟨by simp only [LIM]; omega, fin _ ((prt_clause hc).mono (Nat.le_refl _) (by omega))⟩
theorem not_l1 {n : Nat} {E : DEnds} {m p : Nat} {mo x5 x6 x7 x8 : Option D} (hl : 3 ≤ n) (hp : p ≠ m) : ∀ (l : List D) (S : Sto) (xs : List D) (x3 x4 : Option D), Src S m → S[p]? = some (.lst xs) → xs.length + l.length ≤ 4 → Uni xs →
    (∀ S' x3' x4' xs', Ext2 m p S S' → Src S' m → S'[p]? = some (.lst xs') → xs'.length = xs.length + l.length → Uni xs' → E.nx [some (.ref m), mo, some (.ref p), x3', x4', x5, x6, x7, x8] S') →
    fLoop (fun _ => True) (fun d ρ' S' k => DW.wG (fsN n) (.name 3) d ρ' S' k) (fun E' ρ' S' => wB (fsN n) ir__law_notice_b1 E' ρ' S') E l [some (.ref m), mo, some (.ref p), x3, x4, x5, x6, x7, x8] S
  | [], S, xs, x3, x4, hs, hx, hlen, hu, hE => ⟨trivial, hE S x3 x4 xs (Ext2.refl m p S) hs hx rfl hu⟩
  | d :: r, S, xs, x3, x4, hs, hx, hlen, hu, hE => by
    refine ⟨trivial, ?_⟩
    show wB (fsN n) ir__law_notice_b1 _ [some (.ref m), mo, some (.ref p), some d, x4, x5, x6, x7, x8] S
    simp only [List.length_cons] at hlen
    refine not_b1 hl hs hp hx (by omega) fun S1 x4' ds e1 s1 hds hx1 => ?_
    refine not_l1 hl hp r S1 (xs ++ [.tup ds]) _ x4' s1 hx1 (by simp; omega) (fun x hx => ?_) fun S2 x3' x4'' xs' e2 s2 hx2 hl2 hu2 => ?_
    · rcases List.mem_append.mp hx with hx | hx
      · exact hu x hx
      · rw [List.mem_singleton.mp hx]; exact ⟨ds, rfl, hds⟩
    · exact hE S2 x3' x4'' xs' (e1.trans e2) s2 hx2 (by rw [hl2]; simp; omega) hu2
theorem j6 {w : D} (h : w ∈ [D.str "and", D.str "and", D.str "or", D.str "or", D.str "unless", D.str "onlyif"]) : w ∈ jts := by
  simp only [List.mem_cons, List.not_mem_nil, or_false, jts] at h ⊢
  rcases h with h | h | h | h | h | h <;> simp [h]
theorem not_b0 {n : Nat} {E : DEnds} {S : Sto} {m : Nat} {mo x2 x3 x5 x6 x7 : Option D} {ds es : List D} (hl : 2 ≤ n) (hs : Src S m) (hd : ds.length ≤ 100) (he : es.length ≤ 100)
    (hE : ∀ S' w, ExtB m S S' → Src S' m → w ∈ jts → E.nx [some (.ref m), mo, x2, x3, some (.tup es), x5, x6, x7, some (.tup (ds ++ [w] ++ es))] S') :
    wB (fsN n) ir__law_notice_b0 E [some (.ref m), mo, x2, x3, some (.tup es), x5, x6, x7, some (.tup ds)] S := by
  simp only [DW.wG, DW.wGs, gsLen, List.set_cons_succ, List.set_cons_zero, wB, wS, DW.wT, DW.wTs, DW.wE, DW.wA, DW.wO, DW.wI, List.getElem?_cons_succ, List.getElem?_cons_zero, cmp_eq, cmp_ne, cmp_in, cmp_nin, cmp_lt, cmp_le, cmp_gt, cmp_ge, tru_non, tru_bl, tru_int, tru_tup, op_addi, op_subi, op_muli, op_divi, op_modi, op_powi, op_addt, op_rept, len_tup, len_rol, idx_tup, idx_rol, slc_tup, iter_tup, iter_rol, eqc_int, LIM, Nat.reduceLeDiff, dBlt, dIsi, dInt1, defEnds, startD, List.map_cons, List.map_nil, List.length_cons, List.length_nil, List.replicate_succ, List.replicate_zero, List.cons_append, List.nil_append, Nat.reduceAdd, Nat.reduceSub, isRef, Nat.zero_add, and_true, true_and, if_true, Bool.false_eq_true, if_false, ir__law_notice_b0, f10]
  have e1 := Ext.app S [Ob.lst [D.str "and", D.str "and", D.str "or", D.str "or", D.str "unless", D.str "onlyif"]]
  refine ⟨by omega, m, _, _, rfl, hs.ext e1, hs.ne, sto_last S _, by simp, by simp, fun S2 w e2 s2 hw => ?_⟩
  refine ⟨by omega, by simp only [List.length_append, List.length_cons, List.length_nil]; omega, ?_⟩
  exact hE S2 w ((e1.b m).trans e2) s2 (j6 hw)
/-- the parts joined -/
theorem not_l2 {n : Nat} {E : DEnds} {m : Nat} {mo x2 x3 x5 x6 x7 : Option D} (hl : 2 ≤ n) : ∀ (xs : List D) (c' l' : Nat), Pts c' l' xs → ∀ (chk : Sto → Prop) (S : Sto) (c l : Nat) (ds : List D) (x4 : Option D), (∀ S', ExtB m S S' → chk S') → Src S m → Prt c l ds → l + l' ≤ 100 →
    (∀ S' x4' ds', ExtB m S S' → Src S' m → Prt (c + c') (l + l') ds' → E.nx [some (.ref m), mo, x2, x3, x4', x5, x6, x7, some (.tup ds')] S') →
    fLoop chk (fun d ρ' S' k => DW.wG (fsN n) (.name 4) d ρ' S' k) (fun E' ρ' S' => wB (fsN n) ir__law_notice_b0 E' ρ' S') E xs [some (.ref m), mo, x2, x3, x4, x5, x6, x7, some (.tup ds)] S := by
  intro xs c' l' h
  induction h with
  | nil => exact fun chk S c l ds x4 hc hs hp _ hE => ⟨hc S (ExtB.refl m S), hE S x4 ds (ExtB.refl m S) hs hp⟩
  | @cons c1 l1 c2 l2 es zs p q ih =>
    intro chk S c l ds x4 hc hs hp hlen hE
    refine ⟨hc S (ExtB.refl m S), ?_⟩
    show wB (fsN n) ir__law_notice_b0 _ [some (.ref m), mo, x2, x3, some (.tup es), x5, x6, x7, some (.tup ds)] S
    have a1 := hp.ln
    have a2 := p.ln
    refine not_b0 hl hs (by omega) (by omega) fun S2 w E2 s2 hw => ?_
    have J := prt_join hp hw p
    refine ih chk S2 _ _ _ _ (fun S' e => hc S' (E2.trans e)) s2 J (by omega) fun S' x4' ds' e s' hp' => ?_
    refine hE S' x4' ds' (E2.trans e) s' ?_
    rw [show c + (c1 + c2) = c + c1 + c2 from by omega, show l + (l1 + 1 + l2) = l + 1 + l1 + l2 from by omega]
    exact hp'
abbrev sN (k : Nat) : IS := match k, ir__law_notice with
  | 0, .cons s _ => s
  | 1, .cons _ (.cons s _) => s
  | 2, .cons _ (.cons _ (.cons s _)) => s
  | _, _ => .pass
abbrev restN : IB := match ir__law_notice with
  | .cons _ (.cons _ (.cons _ r)) => r
  | _ => .nil
theorem not_rest {n : Nat} {Q : KQ} {S S3 : Sto} {m p : Nat} {ys : List D} {mo x3 x4 x5 x6 x7 : Option D} {c l : Nat} (hn : 3 ≤ n) (q : ∀ S' v, ExtB m S S' → Src S' m → NoticeG v → Q v S') (E3 : ExtB m S S3) (s3 : Src S3 m) (h3 : S3[p]? = some (.lst ys)) (hy : 0 < ys.length)
    (hP : Pts c l ys) (hc : c ≤ 4) (hlen : l ≤ 17) : wB (fsN n) restN (defEnds Q) [some (.ref m), mo, some (.ref p), x3, x4, x5, x6, x7, none] S3 := by
  simp only [DW.wG, DW.wGs, gsLen, List.set_cons_succ, List.set_cons_zero, wB, wS, DW.wT, DW.wTs, DW.wE, DW.wA, DW.wO, DW.wI, List.getElem?_cons_succ, List.getElem?_cons_zero, cmp_eq, cmp_ne, cmp_in, cmp_nin, cmp_lt, cmp_le, cmp_gt, cmp_ge, tru_non, tru_bl, tru_int, tru_tup, op_addi, op_subi, op_muli, op_divi, op_modi, op_powi, op_addt, op_rept, len_tup, len_rol, idx_tup, idx_rol, slc_tup, iter_tup, iter_rol, eqc_int, LIM, Nat.reduceLeDiff, dBlt, dIsi, dInt1, defEnds, startD, List.map_cons, List.map_nil, List.length_cons, List.length_nil, List.replicate_succ, List.replicate_zero, List.cons_append, List.nil_append, Nat.reduceAdd, Nat.reduceSub, isRef, Nat.zero_add, and_true, true_and, if_true, Bool.false_eq_true, if_false, restN, ir__law_notice]
  rw [idx_ref h3]
  cases hP with
  | nil => simp at hy
  | @cons c1 l1 c2 l2 es zs p1 q1 =>
    refine ⟨_, at0 _ _, ?_⟩
    rw [slc_ref h3, cut1]
    simp only [iter_ref (sto_last S3 (.lst zs))]
    have e4 := Ext.app S3 [Ob.lst zs]
    refine not_l2 (by omega) zs c2 l2 q1 _ _ c1 l1 es _ (fun S' e => e.2 _ _ s3.ne (sto_last S3 _)) (s3.ext e4) p1 (by omega) fun S5 x4' ds' e5 s5 hp5 => ?_
    simp only [DW.wG, DW.wGs, gsLen, List.set_cons_succ, List.set_cons_zero, wB, wS, DW.wT, DW.wTs, DW.wE, DW.wA, DW.wO, DW.wI, List.getElem?_cons_succ, List.getElem?_cons_zero, cmp_eq, cmp_ne, cmp_in, cmp_nin, cmp_lt, cmp_le, cmp_gt, cmp_ge, tru_non, tru_bl, tru_int, tru_tup, op_addi, op_subi, op_muli, op_divi, op_modi, op_powi, op_addt, op_rept, len_tup, len_rol, idx_tup, idx_rol, slc_tup, iter_tup, iter_rol, eqc_int, LIM, Nat.reduceLeDiff, dBlt, dIsi, dInt1, defEnds, startD, List.map_cons, List.map_nil, List.length_cons, List.length_nil, List.replicate_succ, List.replicate_zero, List.cons_append, List.nil_append, Nat.reduceAdd, Nat.reduceSub, isRef, Nat.zero_add, and_true, true_and, if_true, Bool.false_eq_true, if_false]
    have hne := hp5.ln
    exact q S5 _ ((E3.trans (e4.b m)).trans e5) s5 (prt_notice hp5 (by omega) (by omega))
theorem not_s2 {n : Nat} {E : DEnds} {S : Sto} {m p : Nat} {xs : List D} {mo x3 x4 x8 : Option D} (hn : 3 ≤ n) (hs : Src S m) (hp : p ≠ m) (hx : S[p]? = some (.lst xs)) (h0 : 0 < xs.length) (h4 : xs.length ≤ 4) (hu : Uni xs)
    (hE : ∀ S' p' ys x5 x6 x7 c l, ExtB m S S' → Src S' m → S'[p']? = some (.lst ys) → 0 < ys.length → Pts c l ys → c ≤ 4 → l ≤ 17 → E.nx [some (.ref m), mo, some (.ref p'), x3, x4, x5, x6, x7, x8] S') :
    wS (fsN n) (sN 2) E [some (.ref m), mo, some (.ref p), x3, x4, none, none, none, x8] S := by
  have plain : ∀ S', ExtB m S S' → Src S' m → E.nx [some (.ref m), mo, some (.ref p), x3, x4, none, none, none, x8] S' := fun S' e s => hE S' p xs none none none _ _ e s (e.2 _ _ hp hx) h0 (uni_pts hu) h4 (by omega)
  simp only [DW.wG, DW.wGs, gsLen, List.set_cons_succ, List.set_cons_zero, wB, wS, DW.wT, DW.wTs, DW.wE, DW.wA, DW.wO, DW.wI, List.getElem?_cons_succ, List.getElem?_cons_zero, cmp_eq, cmp_ne, cmp_in, cmp_nin, cmp_lt, cmp_le, cmp_gt, cmp_ge, tru_non, tru_bl, tru_int, tru_tup, op_addi, op_subi, op_muli, op_divi, op_modi, op_powi, op_addt, op_rept, len_tup, len_rol, idx_tup, idx_rol, slc_tup, iter_tup, iter_rol, eqc_int, LIM, Nat.reduceLeDiff, dBlt, dIsi, dInt1, defEnds, startD, List.map_cons, List.map_nil, List.length_cons, List.length_nil, List.replicate_succ, List.replicate_zero, List.cons_append, List.nil_append, Nat.reduceAdd, Nat.reduceSub, isRef, Nat.zero_add, and_true, true_and, if_true, Bool.false_eq_true, if_false, sN, ir__law_notice, f9, f10]
  rw [len_ref hx]
  simp only [cmp_gt]
  by_cases h1 : (1 : Int) < xs.length
  · simp only [h1, decide_true, if_true]
    refine ⟨by omega, m, 3, rfl, hs, by decide, by decide, fun S1 r e1 s1 r0 r1 => ?_⟩
    simp only [dEq_iff (fit_int S1 r) (wk_int 0), eqc_int]
    have hx1 := e1.2 _ _ hp hx
    by_cases hr : r = 0
    · simp only [hr, decide_true, if_true]
      rw [len_ref hx1]
      simp only [op_subi]
      refine ⟨by omega, m, _, rfl, s1, by omega, by omega, fun S2 a e2 s2 a0 a1 => ?_⟩
      obtain ⟨a, rfl⟩ := Int.eq_ofNat_of_zero_le a0
      have e3 := Ext.app S2 [Ob.lst [D.str "and", D.str "or", D.str "unless", D.str "onlyif"]]
      refine ⟨by omega, m, _, _, rfl, s2.ext e3, s2.ne, sto_last S2 _, by simp, by simp, fun S4 w e4 s4 hw => ?_⟩
      have E4 := ((e1.trans e2).trans (e3.b m)).trans e4
      have hx4 := E4.2 _ _ hp hx
      have ha : a < xs.length := by omega
      have ha1 : a + 1 < xs.length := by omega
      have g1 : xs[a]? = some (xs[a]'ha) := List.getElem?_eq_getElem _
      have g2 : xs[a + 1]? = some (xs[a + 1]'ha1) := List.getElem?_eq_getElem _
      obtain ⟨ds1, h1', p1⟩ := hu _ (List.mem_of_getElem? g1)
      obtain ⟨ds2, h2', p2⟩ := hu _ (List.mem_of_getElem? g2)
      rw [h1'] at g1
      rw [h2'] at g2
      have l1 := p1.ln
      have l2 := p2.ln
      dsimp only
      rw [idx_ref hx4]
      refine ⟨_, atI_nat g1, ?_⟩
      simp only [op_addt, op_addi, LIM]
      refine ⟨by simp only [List.length_cons, List.length_nil]; omega, by simp only [List.length_append, List.length_cons, List.length_nil]; omega, ?_⟩
      rw [idx_ref hx4]
      refine ⟨_, atI_nat (j := a + 1) g2, ?_⟩
      simp only [op_addt, LIM]
      refine ⟨by simp only [List.length_append, List.length_cons, List.length_nil]; omega, by simp only [List.length_append, List.length_cons, List.length_nil]; omega, ?_⟩
      have whole : Prt 2 7 ([D.str "("] ++ ds1 ++ [w] ++ ds2 ++ [D.str ")"]) := by
        have := prt_br (prt_join p1 hw p2)
        rw [show [D.str "("] ++ (ds1 ++ [w] ++ ds2) ++ [D.str ")"] = [D.str "("] ++ ds1 ++ [w] ++ ds2 ++ [D.str ")"] from by simp] at this
        exact this
      generalize [D.str "("] ++ ds1 ++ [w] ++ ds2 ++ [D.str ")"] = W at whole ⊢
      have lw := whole.ln
      rw [slc_ref hx4, cut_lo]
      have e5 := Ext.app S4 [Ob.lst (xs.take a)]
      refine ⟨by omega, m, 3, rfl, s4.ext e5, by decide, by decide, fun S6 r' e6 s6 r0' r1' => ?_⟩
      have E6 := (E4.trans (e5.b m)).trans e6
      simp only [dEq_iff (fit_int S6 r') (wk_int 0), eqc_int]
      have hx6 := E6.2 _ _ hp hx
      have ht6 : S6[S4.length]? = some (.lst (xs.take a)) := e6.2 _ _ s4.ne (sto_last S4 _)
      -- the list of the parts, put together
      have fin : ∀ V, Prt 2 8 V → dOp .Add (.ref S4.length) (.ref S6.length) (S6 ++ [Ob.lst [.tup V]]) (fun x S1 => dOp .Add (.int (a : Int)) (.int 2) S1 fun d S1 => match d with
          | .int i => dSlc (.ref p) (some i) none S1 fun y S2 => dOp .Add x y S2 fun d S1 => E.nx [some (.ref m), mo, some d, x3, x4, some (.int (a : Int)), some w, some (.tup W), x8] S1
          | _ => False) := fun V hV => by
        rw [op_addl (Ext.app S6 _ _ _ ht6) (sto_last S6 _)]
        refine ⟨by simp only [List.length_take, List.length_cons, List.length_nil, LIM]; omega, ?_⟩
        simp only [op_addi]
        have e7 := (Ext.app S6 [Ob.lst [.tup V]]).trans (Ext.app _ [Ob.lst (xs.take a ++ [.tup V])])
        rw [slc_ref (e7 _ _ hx6)]
        rw [show DW.cutD xs (some ((a : Int) + 2)) none = xs.drop (a + 2) from cut_hi xs a 2]
        rw [op_addl (Ext.app _ _ _ _ (sto_last _ _)) (sto_last _ _)]
        refine ⟨by simp only [List.length_append, List.length_take, List.length_drop, List.length_cons, List.length_nil, LIM]; omega, ?_⟩
        have e9 := e7.trans ((Ext.app _ [Ob.lst (xs.drop (a + 2))]).trans (Ext.app _ [Ob.lst (xs.take a ++ [.tup V] ++ xs.drop (a + 2))]))
        have E9 := E6.trans (e9.b m)
        have s9 := s6.ext e9
        have u1 : Uni (xs.take a) := fun x hx => hu x (List.mem_of_mem_take hx)
        have u2 : Uni (xs.drop (a + 2)) := fun x hx => hu x (List.mem_of_mem_drop hx)
        have P := pts_app (pts_app (uni_pts u1) (Pts.cons hV .nil)) (uni_pts u2)
        have q1 : (xs.take a).length = a := by rw [List.length_take]; omega
        have q2 : (xs.drop (a + 2)).length = xs.length - (a + 2) := List.length_drop
        exact hE _ _ _ _ _ _ _ _ E9 s9 (sto_last _ _) (by simp only [List.length_append, List.length_cons, List.length_nil]; omega) P (by omega) (by omega)
      by_cases hr' : r' = 0
      · simp only [hr', decide_true, if_true]
        refine ⟨by simp only [List.length_cons, List.length_nil]; omega, ?_⟩
        exact fin _ (prt_not whole)
      · simp only [hr', decide_false, Bool.false_eq_true, if_false]
        exact fin _ (whole.mono (Nat.le_refl _) (by omega))
    · simp only [hr, decide_false, Bool.false_eq_true, if_false]
      exact plain S1 e1 s1
  · simp only [h1, decide_false, Bool.false_eq_true, if_false]
    exact plain S (ExtB.refl m S) hs
theorem ob__law_notice (n : Nat) (ds : List D) (S : Sto) (Q : KQ) (h : lv (n + 1) 4 spNotice ds S Q) : wB (fsN n) ir__law_notice (defEnds Q) (startD C__law_notice.N ds) S := by
  obtain ⟨hl, m, rfl, hs, q⟩ := h
  show wS (fsN n) (sN 0) { defEnds Q with nx := fun ρ S => wS (fsN n) (sN 1) { defEnds Q with nx := fun ρ S => wS (fsN n) (sN 2) { defEnds Q with nx := fun ρ S => wB (fsN n) restN (defEnds Q) ρ S } ρ S } ρ S } _ S
  have hpm : S.length ≠ m := hs.ne
  have st0 : ∀ (E : DEnds), E.nx [some (.ref m), some (.int 4), some (.ref S.length), none, none, none, none, none, none] (S ++ [Ob.lst []]) → wS (fsN n) (sN 0) E (startD C__law_notice.N [.ref m, .int 4]) S := fun E h => by
    simp only [DW.wG, DW.wGs, gsLen, List.set_cons_succ, List.set_cons_zero, wB, wS, DW.wT, DW.wTs, DW.wE, DW.wA, DW.wO, DW.wI, List.getElem?_cons_succ, List.getElem?_cons_zero, cmp_eq, cmp_ne, cmp_in, cmp_nin, cmp_lt, cmp_le, cmp_gt, cmp_ge, tru_non, tru_bl, tru_int, tru_tup, op_addi, op_subi, op_muli, op_divi, op_modi, op_powi, op_addt, op_rept, len_tup, len_rol, idx_tup, idx_rol, slc_tup, iter_tup, iter_rol, eqc_int, LIM, Nat.reduceLeDiff, dBlt, dIsi, dInt1, defEnds, startD, List.map_cons, List.map_nil, List.length_cons, List.length_nil, List.replicate_succ, List.replicate_zero, List.cons_append, List.nil_append, Nat.reduceAdd, Nat.reduceSub, isRef, Nat.zero_add, and_true, true_and, if_true, Bool.false_eq_true, if_false, sN, ir__law_notice]
    exact h
  have e0 := Ext.app S [Ob.lst []]
  have st1 : ∀ (E : DEnds), (∀ S2 x3 x4 xs, ExtB m S S2 → Src S2 m → S2[S.length]? = some (.lst xs) → 0 < xs.length → xs.length ≤ 4 → Uni xs → E.nx [some (.ref m), some (.int 4), some (.ref S.length), x3, x4, none, none, none, none] S2) →
      wS (fsN n) (sN 1) E [some (.ref m), some (.int 4), some (.ref S.length), none, none, none, none, none, none] (S ++ [Ob.lst []]) := fun E h => by
    simp only [DW.wG, DW.wGs, gsLen, List.set_cons_succ, List.set_cons_zero, wB, wS, DW.wT, DW.wTs, DW.wE, DW.wA, DW.wO, DW.wI, List.getElem?_cons_succ, List.getElem?_cons_zero, cmp_eq, cmp_ne, cmp_in, cmp_nin, cmp_lt, cmp_le, cmp_gt, cmp_ge, tru_non, tru_bl, tru_int, tru_tup, op_addi, op_subi, op_muli, op_divi, op_modi, op_powi, op_addt, op_rept, len_tup, len_rol, idx_tup, idx_rol, slc_tup, iter_tup, iter_rol, eqc_int, LIM, Nat.reduceLeDiff, dBlt, dIsi, dInt1, defEnds, startD, List.map_cons, List.map_nil, List.length_cons, List.length_nil, List.replicate_succ, List.replicate_zero, List.cons_append, List.nil_append, Nat.reduceAdd, Nat.reduceSub, isRef, Nat.zero_add, and_true, true_and, if_true, Bool.false_eq_true, if_false, sN, ir__law_notice, f9]
    refine ⟨by omega, m, 4, rfl, hs.ext e0, by decide, by decide, fun S1 r e1 s1 r0 r1 => ?_⟩
    obtain ⟨r, rfl⟩ := Int.eq_ofNat_of_zero_le r0
    simp only [op_addi]
    refine ⟨⟨by omega, by omega⟩, ?_⟩
    have hN : (DW.intsFrom 0 (1 + (r : Int)).toNat).length = r + 1 := by
      unfold DW.intsFrom
      simp
      omega
    have hx1 := e1.2 _ _ hpm (sto_last S (.lst []))
    refine not_l1 (by omega) hpm _ S1 [] none none s1 hx1 (by rw [hN]; simp; omega) (fun x h => by cases h) fun S2 x3 x4 xs e2 s2 hx2 hlx hu => ?_
    rw [hN] at hlx
    simp only [List.length_nil, Nat.zero_add] at hlx
    exact h S2 x3 x4 xs (Ext2.b ((e0.b m).trans e1) e2 (Nat.le_refl _)) s2 hx2 (by omega) (by omega) hu
  refine st0 _ (st1 _ fun S2 x3 x4 xs E2 s2 hx2 h0 h4 hu => ?_)
  refine not_s2 (by omega) s2 hpm hx2 h0 h4 hu fun S3 p' ys x5 x6 x7 c l E3 s3 h3 hy hP hc hl' => ?_
  exact not_rest (by omega) q (E2.trans E3) s3 h3 hy hP hc hl'
end K01

set_option Elab.async false
set_option linter.all false
set_option maxRecDepth 100000
set_option maxHeartbeats 1000000

namespace K01
open PySem PySem.Spec PyProof.Rows L2 DW

theorem ints_mp (lo : Int) (n : Nat) : DW.intsFrom lo n = ((List.range n).map fun (i : Nat) => lo + (i : Int)).map D.int := by
  simp [DW.intsFrom]
theorem law_turns {n : Nat} {E : DEnds} {m : Nat} {x0 x1 x3 x4 x5 x9 x10 x11 x12 x13 : Option D} {good : D} (hl : 50 ≤ n) (hg : ∀ S, okd 16 5 S good = true) (hr : ∀ v S, E.rt v S → True) :
    ∀ (l : List Int) (t : Nat) (S : Sto) (v : D) (x8 : Option D), t + l.length ≤ 10 → Src S m → okd (16 + t) (5 + 2 * t) (msk m S) v = true →
    (∀ S' v' x8', ExtB m S S' → Src S' m → E.nx [x0, x1, some (.ref m), x3, x4, x5, some good, some v', x8', x9, x10, x11, x12, x13] S') →
    fLoop (fun _ => True) (fun d ρ' S' k => DW.wG (fsN n) (.name 8) d ρ' S' k) (fun E' ρ' S' => wB (fsN n) ir_law_b1 E' ρ' S') E (l.map D.int) [x0, x1, some (.ref m), x3, x4, x5, some good, some v, x8, x9, x10, x11, x12, x13] S
  | [], t, S, v, x8, ht, hs, hv, hE => ⟨trivial, hE S v x8 (ExtB.refl m S) hs⟩
  | i :: r, t, S, v, x8, ht, hs, hv, hE => by
    refine ⟨trivial, ?_⟩
    show wB (fsN n) ir_law_b1 _ [x0, x1, some (.ref m), x3, x4, x5, some good, some v, some (.int i), x9, x10, x11, x12, x13] S
    simp only [List.length_cons] at ht
    have nxt : ∀ S' v', ExtB m S S' → Src S' m → okd (16 + t + 1) (5 + 2 * t + 2) (msk m S') v' = true →
        fLoop (fun _ => True) (fun d ρ' S' k => DW.wG (fsN n) (.name 8) d ρ' S' k) (fun E' ρ' S' => wB (fsN n) ir_law_b1 E' ρ' S') E (r.map D.int) [x0, x1, some (.ref m), x3, x4, x5, some good, some v', some (.int i), x9, x10, x11, x12, x13] S' := fun S' v' e s h =>
      law_turns hl hg hr r (t + 1) S' v' _ (by omega) s (okd_mono (by omega) (by omega) h) fun S2 v2 x8' e2 s2 => hE S2 v2 x8' (e.trans e2) s2
    simp only [DW.wG, DW.wGs, gsLen, List.set_cons_succ, List.set_cons_zero, wB, wS, DW.wT, DW.wTs, DW.wE, DW.wA, DW.wO, DW.wI, List.getElem?_cons_succ, List.getElem?_cons_zero, cmp_eq, cmp_ne, cmp_in, cmp_nin, cmp_lt, cmp_le, cmp_gt, cmp_ge, tru_non, tru_bl, tru_int, tru_tup, op_addi, op_subi, op_muli, op_divi, op_modi, op_powi, op_addt, op_rept, len_tup, len_rol, idx_tup, idx_rol, slc_tup, iter_tup, iter_rol, eqc_int, LIM, Nat.reduceLeDiff, dBlt, dIsi, dInt1, defEnds, startD, List.map_cons, List.map_nil, List.length_cons, List.length_nil, List.replicate_succ, List.replicate_zero, List.cons_append, List.nil_append, Nat.reduceAdd, Nat.reduceSub, isRef, Nat.zero_add, and_true, true_and, if_true, Bool.false_eq_true, if_false, ir_law_b1, f21, f22]
    refine ⟨by omega, v, rfl, ⟨_, _, by omega, okd_msk hv⟩, fun S1 e1 => ?_⟩
    simp only [DW.wG, DW.wGs, gsLen, List.set_cons_succ, List.set_cons_zero, wB, wS, DW.wT, DW.wTs, DW.wE, DW.wA, DW.wO, DW.wI, List.getElem?_cons_succ, List.getElem?_cons_zero, cmp_eq, cmp_ne, cmp_in, cmp_nin, cmp_lt, cmp_le, cmp_gt, cmp_ge, tru_non, tru_bl, tru_int, tru_tup, op_addi, op_subi, op_muli, op_divi, op_modi, op_powi, op_addt, op_rept, len_tup, len_rol, idx_tup, idx_rol, slc_tup, iter_tup, iter_rol, eqc_int, LIM, Nat.reduceLeDiff, dBlt, dIsi, dInt1, defEnds, startD, List.map_cons, List.map_nil, List.length_cons, List.length_nil, List.replicate_succ, List.replicate_zero, List.cons_append, List.nil_append, Nat.reduceAdd, Nat.reduceSub, isRef, Nat.zero_add, and_true, true_and, if_true, Bool.false_eq_true, if_false, Bool.not_true]
    refine ⟨by decide, ?_⟩
    rw [dEq_iff (fit_int _ _) (wk_int 0), eqc_int]
    have s1 := hs.ext e1
    have v1 := okd_ext (msk_ext (e1.b m) hs.lt) hv
    by_cases hi : i % 4 = 0
    · simp only [hi, decide_true, if_true]
      exact ⟨m, good, 16 + t, 5 + 2 * t, rfl, by omega, s1, okd_mono (by omega) (by omega) (hg _), by omega, by omega, by omega, fun S2 v2 e2 s2 h2 => nxt S2 v2 ((e1.b m).trans e2) s2 h2⟩
    · simp only [hi, decide_false, Bool.false_eq_true, if_false]
      exact ⟨m, v, 16 + t, 5 + 2 * t, rfl, by omega, s1, v1, by omega, by omega, by omega, fun S2 v2 e2 s2 h2 => nxt S2 v2 ((e1.b m).trans e2) s2 h2⟩
theorem law_goods {n : Nat} {E : DEnds} {m : Nat} {x0 x1 x3 x4 x5 x9 x10 x11 x12 x13 : Option D} (hl : 50 ≤ n) {chk : Sto → Prop} :
    ∀ (gs : List D) (S : Sto) (x6 x7 x8 : Option D), (∀ g ∈ gs, ∀ S, okd 16 5 S g = true) → Src S m → (∀ S', ExtB m S S' → chk S') →
    (∀ S' x6' x7' x8', ExtB m S S' → Src S' m → E.nx [x0, x1, some (.ref m), x3, x4, x5, x6', x7', x8', x9, x10, x11, x12, x13] S') →
    fLoop chk (fun d ρ' S' k => DW.wG (fsN n) (.name 6) d ρ' S' k) (fun E' ρ' S' => wB (fsN n) ir_law_b2 E' ρ' S') E gs [x0, x1, some (.ref m), x3, x4, x5, x6, x7, x8, x9, x10, x11, x12, x13] S
  | [], S, x6, x7, x8, hg, hs, hc, hE => ⟨hc S (ExtB.refl m S), hE S x6 x7 x8 (ExtB.refl m S) hs⟩
  | g :: r, S, x6, x7, x8, hg, hs, hc, hE => by
    refine ⟨hc S (ExtB.refl m S), ?_⟩
    show wB (fsN n) ir_law_b2 _ [x0, x1, some (.ref m), x3, x4, x5, some g, x7, x8, x9, x10, x11, x12, x13] S
    simp only [DW.wG, DW.wGs, gsLen, List.set_cons_succ, List.set_cons_zero, wB, wS, DW.wT, DW.wTs, DW.wE, DW.wA, DW.wO, DW.wI, List.getElem?_cons_succ, List.getElem?_cons_zero, cmp_eq, cmp_ne, cmp_in, cmp_nin, cmp_lt, cmp_le, cmp_gt, cmp_ge, tru_non, tru_bl, tru_int, tru_tup, op_addi, op_subi, op_muli, op_divi, op_modi, op_powi, op_addt, op_rept, len_tup, len_rol, idx_tup, idx_rol, slc_tup, iter_tup, iter_rol, eqc_int, LIM, Nat.reduceLeDiff, dBlt, dIsi, dInt1, defEnds, startD, List.map_cons, List.map_nil, List.length_cons, List.length_nil, List.replicate_succ, List.replicate_zero, List.cons_append, List.nil_append, Nat.reduceAdd, Nat.reduceSub, isRef, Nat.zero_add, and_true, true_and, if_true, Bool.false_eq_true, if_false, ir_law_b2]
    refine ⟨⟨by decide, by decide⟩, ?_⟩
    rw [ints_mp]
    have g0 := hg g List.mem_cons_self
    refine law_turns hl g0 (fun _ _ _ => trivial) ((List.range 10).map fun (i : Nat) => 0 + (i : Int)) 0 S g _ (by decide) hs (g0 _) fun S1 v1 x8' e1 s1 => ?_
    exact law_goods hl r S1 _ _ _ (fun z hz => hg z (List.mem_cons_of_mem _ hz)) s1 (fun S' e => hc S' (e1.trans e)) fun S2 x6' x7' x8'' e2 s2 => hE S2 x6' x7' x8'' (e1.trans e2) s2
theorem notice_tup {d : D} (h : isNotice d = true) : ∃ ds, d = .tup ds := by
  cases d with
  | tup ds => exact ⟨ds, rfl⟩
  | _ => cases h
theorem nest_tup {j : Nat} {d : D} (h : isNest j d = true) : ∃ ds, d = .tup ds := by
  cases j with
  | zero => cases h
  | succ j =>
    cases d with
    | tup ds => exact ⟨ds, rfl⟩
    | _ => cases h
theorem nest_up : ∀ {j k : Nat} {d : D}, j ≤ k → isNest j d = true → isNest k d = true
  | 0, _, _, _, h => by cases h
  | j + 1, 0, _, hk, h => by omega
  | j + 1, k + 1, d, hk, h => by
    unfold isNest at h ⊢
    split at h
    · rename_i w r
      by_cases h1 : eqc w (sD "not") = true
      · simp only [h1, if_true] at h ⊢
        split at h
        · exact nest_up (by omega) h
        · cases h
      · simp only [h1, Bool.false_eq_true, if_false] at h ⊢
        by_cases h2 : isP w = true
        · simp only [h2, if_true] at h ⊢
          split at h
          · rw [Bool.and_eq_true] at h ⊢
            exact ⟨nest_up (by omega) h.1, nest_up (by omega) h.2⟩
          · cases h
        · simp only [h2, Bool.false_eq_true, if_false] at h ⊢
          exact h
    · cases h
/-- four drawn numbers -/
def Fours (cs : List D) : Prop := ∀ c ∈ cs, ∃ i : Int, c = .int i ∧ 0 ≤ i ∧ i < 10
theorem house_of {cs : List D} (h : Fours cs) (hl : cs.length = 4) : isHouse (.tup cs) = true ∧ ∀ S, okd 16 5 S (.tup cs) = true := by
  constructor
  · show (decide (cs.length = 4) && cs.all fun c => isNum c 0 big) = true
    rw [hl, List.all_eq_true.mpr fun c hc => ?_]
    · rfl
    · obtain ⟨i, rfl, h0, h1⟩ := h c hc
      show (decide (0 ≤ i) && decide (i ≤ big)) = true
      rw [decide_eq_true h0, decide_eq_true (show i ≤ big by unfold big; omega)]
      rfl
  · intro S
    refine okd_tup (by omega) fun d hd => ?_
    obtain ⟨i, rfl, _, _⟩ := h d hd
    rfl
theorem law_house {n : Nat} {ρ : En} {S : Sto} {Q : KQ} {m : Nat} (hl : 1 ≤ n) (hs : Src S m) (h2 : (wipeD ρ [13])[2]? = some (some (.ref m))) (hlen : ρ.length = 14)
    (hE : ∀ S' p cs, ExtB m S S' → Src S' m → S'[p]? = some (.lst cs) → Fours cs → cs.length = 4 → Q (.ref p) S') : wE (fsN n) ir_law_l3 ρ S Q := by
  simp only [DW.wG, DW.wGs, gsLen, List.set_cons_succ, List.set_cons_zero, wB, wS, DW.wT, DW.wTs, DW.wE, DW.wA, DW.wO, DW.wI, List.getElem?_cons_succ, List.getElem?_cons_zero, cmp_eq, cmp_ne, cmp_in, cmp_nin, cmp_lt, cmp_le, cmp_gt, cmp_ge, tru_non, tru_bl, tru_int, tru_tup, op_addi, op_subi, op_muli, op_divi, op_modi, op_powi, op_addt, op_rept, len_tup, len_rol, idx_tup, idx_rol, slc_tup, iter_tup, iter_rol, eqc_int, LIM, Nat.reduceLeDiff, dBlt, dIsi, dInt1, defEnds, startD, List.map_cons, List.map_nil, List.length_cons, List.length_nil, List.replicate_succ, List.replicate_zero, List.cons_append, List.nil_append, Nat.reduceAdd, Nat.reduceSub, isRef, Nat.zero_add, and_true, true_and, if_true, Bool.false_eq_true, if_false, ir_law_l3, f9]
  refine ⟨⟨by decide, by decide⟩, ?_⟩
  refine cLoop_gen (J := fun r acc S' => ExtB m S S' ∧ Src S' m ∧ S'[S.length]? = some (.lst acc) ∧ acc.length + r.length = 4 ∧ Fours acc) ?_ ?_ ?_ _ [] _ ⟨ExtB.app m S _, hs.ext (Ext.app S _), sto_last S _, by decide, fun c hc => by cases hc⟩
  · intros; trivial
  · rintro d r acc S1 ky kn ⟨e1, s1, hx, hn, hf⟩ g1 g2
    have e2 : ((wipeD ρ [13]).set 13 (some d))[2]? = some (some (.ref m)) := by rw [List.getElem?_set_ne (by decide)]; exact h2
    rw [e2]
    refine ⟨by omega, m, 10, rfl, s1, by decide, by decide, fun S2 i e3 s3 i0 i1 => ?_⟩
    have hx2 := e3.2 _ _ hs.ne hx
    simp only [List.length_cons] at hn
    refine g1 _ S2 hx2 (by simp only [LIM]; omega) ⟨(e1.trans e3).set' (Nat.le_refl _) _, s3.set hs.ne _, sto_set hx2, by simp; omega, fun c hc => ?_⟩
    rcases List.mem_append.mp hc with hc | hc
    · exact hf c hc
    · exact ⟨i, List.mem_singleton.mp hc, i0, i1⟩
  · rintro acc S1 ⟨e1, s1, hx, hn, hf⟩
    exact hE S1 _ acc e1 s1 hx hf (by simpa using hn)
theorem law_round {n : Nat} {E : DEnds} {S : Sto} {ns : List Int} {k : Nat} {x2 x3 x4 x5 x6 x7 x8 : Option D} (hl : 50 ≤ n) (hlen : ns.length ≤ 63) (hk : k ≤ 63)
    (hE : ∀ S' x2 x3 x4 x5 x6 x7 x8, E.nx [some (.rol (ns.map D.int)), some (.int k), x2, x3, x4, x5, x6, x7, x8, none, none, none, none, none] S') :
    wB (fsN n) ir_law_b3 E [some (.rol (ns.map D.int)), some (.int k), x2, x3, x4, x5, x6, x7, x8, none, none, none, none, none] S := by
  simp only [DW.wG, DW.wGs, gsLen, List.set_cons_succ, List.set_cons_zero, wB, wS, DW.wT, DW.wTs, DW.wE, DW.wA, DW.wO, DW.wI, List.getElem?_cons_succ, List.getElem?_cons_zero, cmp_eq, cmp_ne, cmp_in, cmp_nin, cmp_lt, cmp_le, cmp_gt, cmp_ge, tru_non, tru_bl, tru_int, tru_tup, op_addi, op_subi, op_muli, op_divi, op_modi, op_powi, op_addt, op_rept, len_tup, len_rol, idx_tup, idx_rol, slc_tup, iter_tup, iter_rol, eqc_int, LIM, Nat.reduceLeDiff, dBlt, dIsi, dInt1, defEnds, startD, List.map_cons, List.map_nil, List.length_cons, List.length_nil, List.replicate_succ, List.replicate_zero, List.cons_append, List.nil_append, Nat.reduceAdd, Nat.reduceSub, isRef, Nat.zero_add, and_true, true_and, if_true, Bool.false_eq_true, if_false, ir_law_b3, f8, f13, f14]
  refine ⟨by omega, ns, k, rfl, hlen, hk, fun S1 m e1 hm s1 => ?_⟩
  simp only [DW.wG, DW.wGs, gsLen, List.set_cons_succ, List.set_cons_zero, wB, wS, DW.wT, DW.wTs, DW.wE, DW.wA, DW.wO, DW.wI, List.getElem?_cons_succ, List.getElem?_cons_zero, cmp_eq, cmp_ne, cmp_in, cmp_nin, cmp_lt, cmp_le, cmp_gt, cmp_ge, tru_non, tru_bl, tru_int, tru_tup, op_addi, op_subi, op_muli, op_divi, op_modi, op_powi, op_addt, op_rept, len_tup, len_rol, idx_tup, idx_rol, slc_tup, iter_tup, iter_rol, eqc_int, LIM, Nat.reduceLeDiff, dBlt, dIsi, dInt1, defEnds, startD, List.map_cons, List.map_nil, List.length_cons, List.length_nil, List.replicate_succ, List.replicate_zero, List.cons_append, List.nil_append, Nat.reduceAdd, Nat.reduceSub, isRef, Nat.zero_add, and_true, true_and, if_true, Bool.false_eq_true, if_false]
  refine ⟨by omega, m, rfl, s1, fun S2 v3 e2 s2 h3 => ?_⟩
  refine ⟨m, 4, rfl, by decide, by decide, by omega, s2, fun S3 v4 e3 s3 h4 => ?_⟩
  simp only [DW.wG, DW.wGs, gsLen, List.set_cons_succ, List.set_cons_zero, wB, wS, DW.wT, DW.wTs, DW.wE, DW.wA, DW.wO, DW.wI, List.getElem?_cons_succ, List.getElem?_cons_zero, cmp_eq, cmp_ne, cmp_in, cmp_nin, cmp_lt, cmp_le, cmp_gt, cmp_ge, tru_non, tru_bl, tru_int, tru_tup, op_addi, op_subi, op_muli, op_divi, op_modi, op_powi, op_addt, op_rept, len_tup, len_rol, idx_tup, idx_rol, slc_tup, iter_tup, iter_rol, eqc_int, LIM, Nat.reduceLeDiff, dBlt, dIsi, dInt1, defEnds, startD, List.map_cons, List.map_nil, List.length_cons, List.length_nil, List.replicate_succ, List.replicate_zero, List.cons_append, List.nil_append, Nat.reduceAdd, Nat.reduceSub, isRef, Nat.zero_add, and_true, true_and, if_true, Bool.false_eq_true, if_false]
  refine law_house (by omega) s3 rfl rfl fun S4 p cs e4 s4 hp hf hc => ?_
  simp only [DW.wG, DW.wGs, gsLen, List.set_cons_succ, List.set_cons_zero, wB, wS, DW.wT, DW.wTs, DW.wE, DW.wA, DW.wO, DW.wI, List.getElem?_cons_succ, List.getElem?_cons_zero, cmp_eq, cmp_ne, cmp_in, cmp_nin, cmp_lt, cmp_le, cmp_gt, cmp_ge, tru_non, tru_bl, tru_int, tru_tup, op_addi, op_subi, op_muli, op_divi, op_modi, op_powi, op_addt, op_rept, len_tup, len_rol, idx_tup, idx_rol, slc_tup, iter_tup, iter_rol, eqc_int, LIM, Nat.reduceLeDiff, dBlt, dIsi, dInt1, defEnds, startD, List.map_cons, List.map_nil, List.length_cons, List.length_nil, List.replicate_succ, List.replicate_zero, List.cons_append, List.nil_append, Nat.reduceAdd, Nat.reduceSub, isRef, Nat.zero_add, and_true, true_and, if_true, Bool.false_eq_true, if_false, dItems, items, hp, f1, f2, f3]
  obtain ⟨g5, o5⟩ := house_of hf hc
  have o3 : ∀ S, okd 16 5 S v3 = true := fun S => okd_mono (Nat.le_refl _) (by omega) (h3.2 S)
  have o4 : ∀ S, okd 16 5 S v4 = true := fun S => okd_mono (by omega) (by omega) (h4.2 S)
  refine ⟨by omega, v3, rfl, ⟨16, 5, by omega, o3 _⟩, fun S5 e5 => ?_⟩
  simp only [DW.wG, DW.wGs, gsLen, List.set_cons_succ, List.set_cons_zero, wB, wS, DW.wT, DW.wTs, DW.wE, DW.wA, DW.wO, DW.wI, List.getElem?_cons_succ, List.getElem?_cons_zero, cmp_eq, cmp_ne, cmp_in, cmp_nin, cmp_lt, cmp_le, cmp_gt, cmp_ge, tru_non, tru_bl, tru_int, tru_tup, op_addi, op_subi, op_muli, op_divi, op_modi, op_powi, op_addt, op_rept, len_tup, len_rol, idx_tup, idx_rol, slc_tup, iter_tup, iter_rol, eqc_int, LIM, Nat.reduceLeDiff, dBlt, dIsi, dInt1, defEnds, startD, List.map_cons, List.map_nil, List.length_cons, List.length_nil, List.replicate_succ, List.replicate_zero, List.cons_append, List.nil_append, Nat.reduceAdd, Nat.reduceSub, isRef, Nat.zero_add, and_true, true_and, if_true, Bool.false_eq_true, if_false, h3.1, Bool.not_true]
  refine ⟨by omega, v4, rfl, ⟨16, 5, by omega, o4 _⟩, ?_⟩
  simp only [DW.wG, DW.wGs, gsLen, List.set_cons_succ, List.set_cons_zero, wB, wS, DW.wT, DW.wTs, DW.wE, DW.wA, DW.wO, DW.wI, List.getElem?_cons_succ, List.getElem?_cons_zero, cmp_eq, cmp_ne, cmp_in, cmp_nin, cmp_lt, cmp_le, cmp_gt, cmp_ge, tru_non, tru_bl, tru_int, tru_tup, op_addi, op_subi, op_muli, op_divi, op_modi, op_powi, op_addt, op_rept, len_tup, len_rol, idx_tup, idx_rol, slc_tup, iter_tup, iter_rol, eqc_int, LIM, Nat.reduceLeDiff, dBlt, dIsi, dInt1, defEnds, startD, List.map_cons, List.map_nil, List.length_cons, List.length_nil, List.replicate_succ, List.replicate_zero, List.cons_append, List.nil_append, Nat.reduceAdd, Nat.reduceSub, isRef, Nat.zero_add, and_true, true_and, if_true, Bool.false_eq_true, if_false, nest_up (show 4 ≤ 10 by decide) h4.1, Bool.not_true]
  refine ⟨by omega, _, rfl, ⟨16, 5, by omega, o5 _⟩, fun S6 e6 => ?_⟩
  simp only [DW.wG, DW.wGs, gsLen, List.set_cons_succ, List.set_cons_zero, wB, wS, DW.wT, DW.wTs, DW.wE, DW.wA, DW.wO, DW.wI, List.getElem?_cons_succ, List.getElem?_cons_zero, cmp_eq, cmp_ne, cmp_in, cmp_nin, cmp_lt, cmp_le, cmp_gt, cmp_ge, tru_non, tru_bl, tru_int, tru_tup, op_addi, op_subi, op_muli, op_divi, op_modi, op_powi, op_addt, op_rept, len_tup, len_rol, idx_tup, idx_rol, slc_tup, iter_tup, iter_rol, eqc_int, LIM, Nat.reduceLeDiff, dBlt, dIsi, dInt1, defEnds, startD, List.map_cons, List.map_nil, List.length_cons, List.length_nil, List.replicate_succ, List.replicate_zero, List.cons_append, List.nil_append, Nat.reduceAdd, Nat.reduceSub, isRef, Nat.zero_add, and_true, true_and, if_true, Bool.false_eq_true, if_false, g5, Bool.not_true]
  have s6 := (s4.ext e5).ext e6
  have e7 := Ext.app S6 [Ob.lst [v3, v4, D.tup cs]]
  rw [iter_ref (sto_last S6 _)]
  refine law_goods hl [v3, v4, .tup cs] _ _ _ _ (fun g hg => ?_) (s6.ext e7) (fun S' e => e.2 _ _ s6.ne (sto_last S6 _)) fun S8 x6' x7' x8' e8 s8 => ?_
  · simp only [List.mem_cons, List.not_mem_nil, or_false] at hg
    rcases hg with rfl | rfl | rfl
    · exact o3
    · exact o4
    · exact o5
  obtain ⟨d3, rfl⟩ := notice_tup h3.1
  obtain ⟨d4, rfl⟩ := nest_tup h4.1
  have lsd : ∀ (S : Sto) (ds : List D), (∀ S, okd 16 5 S (.tup ds) = true) → Fit (S ++ [Ob.lst ds]) (.ref S.length) := fun S ds h => by
    refine ⟨16, 5, by omega, ?_⟩
    have := h (S ++ [Ob.lst ds])
    simp only [okd, sto_last] at this ⊢
    exact this
  simp only [DW.wG, DW.wGs, gsLen, List.set_cons_succ, List.set_cons_zero, wB, wS, DW.wT, DW.wTs, DW.wE, DW.wA, DW.wO, DW.wI, List.getElem?_cons_succ, List.getElem?_cons_zero, cmp_eq, cmp_ne, cmp_in, cmp_nin, cmp_lt, cmp_le, cmp_gt, cmp_ge, tru_non, tru_bl, tru_int, tru_tup, op_addi, op_subi, op_muli, op_divi, op_modi, op_powi, op_addt, op_rept, len_tup, len_rol, idx_tup, idx_rol, slc_tup, iter_tup, iter_rol, eqc_int, LIM, Nat.reduceLeDiff, dBlt, dIsi, dInt1, defEnds, startD, List.map_cons, List.map_nil, List.length_cons, List.length_nil, List.replicate_succ, List.replicate_zero, List.cons_append, List.nil_append, Nat.reduceAdd, Nat.reduceSub, isRef, Nat.zero_add, and_true, true_and, if_true, Bool.false_eq_true, if_false, dItems, items, f22]
  refine ⟨by omega, _, rfl, lsd _ _ o3, fun S9 e9 => ?_⟩
  simp only [DW.wG, DW.wGs, gsLen, List.set_cons_succ, List.set_cons_zero, wB, wS, DW.wT, DW.wTs, DW.wE, DW.wA, DW.wO, DW.wI, List.getElem?_cons_succ, List.getElem?_cons_zero, cmp_eq, cmp_ne, cmp_in, cmp_nin, cmp_lt, cmp_le, cmp_gt, cmp_ge, tru_non, tru_bl, tru_int, tru_tup, op_addi, op_subi, op_muli, op_divi, op_modi, op_powi, op_addt, op_rept, len_tup, len_rol, idx_tup, idx_rol, slc_tup, iter_tup, iter_rol, eqc_int, LIM, Nat.reduceLeDiff, dBlt, dIsi, dInt1, defEnds, startD, List.map_cons, List.map_nil, List.length_cons, List.length_nil, List.replicate_succ, List.replicate_zero, List.cons_append, List.nil_append, Nat.reduceAdd, Nat.reduceSub, isRef, Nat.zero_add, and_true, true_and, if_true, Bool.false_eq_true, if_false, Bool.not_true, dItems, items]
  refine ⟨by omega, _, rfl, lsd _ _ o4, fun S10 e10 => ?_⟩
  simp only [DW.wG, DW.wGs, gsLen, List.set_cons_succ, List.set_cons_zero, wB, wS, DW.wT, DW.wTs, DW.wE, DW.wA, DW.wO, DW.wI, List.getElem?_cons_succ, List.getElem?_cons_zero, cmp_eq, cmp_ne, cmp_in, cmp_nin, cmp_lt, cmp_le, cmp_gt, cmp_ge, tru_non, tru_bl, tru_int, tru_tup, op_addi, op_subi, op_muli, op_divi, op_modi, op_powi, op_addt, op_rept, len_tup, len_rol, idx_tup, idx_rol, slc_tup, iter_tup, iter_rol, eqc_int, LIM, Nat.reduceLeDiff, dBlt, dIsi, dInt1, defEnds, startD, List.map_cons, List.map_nil, List.length_cons, List.length_nil, List.replicate_succ, List.replicate_zero, List.cons_append, List.nil_append, Nat.reduceAdd, Nat.reduceSub, isRef, Nat.zero_add, and_true, true_and, if_true, Bool.false_eq_true, if_false, Bool.not_true]
  exact hE _ _ _ _ _ _ _ _
theorem law_rounds {n : Nat} {E : DEnds} {ns : List Int} (hl : 50 ≤ n) (hlen : ns.length ≤ 63) : ∀ (l : List Nat) (S : Sto) (x1 x2 x3 x4 x5 x6 x7 x8 : Option D), (∀ k ∈ l, k ≤ 63) →
    (∀ S' x1 x2 x3 x4 x5 x6 x7 x8, E.nx [some (.rol (ns.map D.int)), x1, x2, x3, x4, x5, x6, x7, x8, none, none, none, none, none] S') →
    fLoop (fun _ => True) (fun d ρ' S' k => DW.wG (fsN n) (.name 1) d ρ' S' k) (fun E' ρ' S' => wB (fsN n) ir_law_b3 E' ρ' S') E (l.map fun i => D.int (i : Nat)) [some (.rol (ns.map D.int)), x1, x2, x3, x4, x5, x6, x7, x8, none, none, none, none, none] S
  | [], S, x1, x2, x3, x4, x5, x6, x7, x8, hk, hE => ⟨trivial, hE S _ _ _ _ _ _ _ _⟩
  | k :: r, S, x1, x2, x3, x4, x5, x6, x7, x8, hk, hE => by
    refine ⟨trivial, ?_⟩
    show wB (fsN n) ir_law_b3 _ [some (.rol (ns.map D.int)), some (.int k), x2, x3, x4, x5, x6, x7, x8, none, none, none, none, none] S
    refine law_round hl hlen (hk k List.mem_cons_self) fun S1 x2 x3 x4 x5 x6 x7 x8 => ?_
    exact law_rounds hl hlen r S1 _ _ _ _ _ _ _ _ (fun z hz => hk z (List.mem_cons_of_mem _ hz)) hE
end K01

set_option Elab.async false
set_option linter.all false
set_option maxRecDepth 100000
set_option maxHeartbeats 1000000

namespace K01
open PySem PySem.Spec PyProof.Rows L2 DW

/-! ### written lists -/
theorem add_l {S : Sto} {p q : Nat} {xs ys : List D} {Q : KQ} (h : S[p]? = some (.lst xs)) (h2 : S[q]? = some (.lst ys)) (hl : xs.length + ys.length ≤ 100000) (k : ∀ S' p', Ext S S' → S'[p']? = some (.lst (xs ++ ys)) → Q (.ref p') S') : dOp .Add (.ref p) (.ref q) S Q := by
  rw [op_addl h h2]
  exact ⟨hl, k _ _ (Ext.app S _) (sto_last _ _)⟩
theorem rep_l {S : Sto} {p i : Nat} {xs : List D} {Q : KQ} (h : S[p]? = some (.lst xs)) (hi : i ≤ 100) (hl : xs.length ≤ 100) (k : ∀ S' p', Ext S S' → S'[p']? = some (.lst (List.replicate i xs).flatten) → Q (.ref p') S') : dOp .Mult (.ref p) (.int i) S Q := by
  rw [op_repl h]
  refine ⟨⟨by omega, by omega, ?_⟩, k _ _ (Ext.app S _) (sto_last _ _)⟩
  rw [Int.toNat_natCast]
  exact Nat.le_trans (Nat.mul_le_mul hl hi) (by simp only [LIM]; omega)
theorem toPy_bls (S : Sto) : ∀ bs : List Bool, (bs.map D.bl).mapM (toPy 65 S) = some (bs.map PyData.bool)
  | [] => rfl
  | b :: r => by
    rw [List.map_cons, List.mapM_cons, toPy_bls S r]
    rfl
theorem bls_shaped (bs : List Bool) : SeqAt.shaped (.list (bs.map PyData.bool)) = true := by
  have h1 : PyData.canLayAll0 (bs.map PyData.bool) = true := lay_all fun p hp => by
    obtain ⟨b, _, rfl⟩ := List.mem_map.mp hp
    simp [PyData.canLay0]
  have h2 : PyData.depthAll (bs.map PyData.bool) ≤ 1 := depth_all fun p hp => by
    obtain ⟨b, _, rfl⟩ := List.mem_map.mp hp
    simp [PyData.depth]
  show ((PyData.list (bs.map PyData.bool)).canLay0 && decide ((PyData.list (bs.map PyData.bool)).depth ≤ 64)) = true
  rw [Bool.and_eq_true]
  refine ⟨by simp only [PyData.canLay0]; exact h1, decide_eq_true ?_⟩
  simp only [PyData.depth]
  omega
theorem eqv_bls : ∀ bs : List Bool, PyData.eqvAll (bs.map PyData.bool) (bs.map PyData.bool) = true
  | [] => by simp [PyData.eqvAll]
  | b :: r => by
    rw [List.map_cons, PyData.eqvAll, eqv_bls r]
    cases b <;> simp [PyData.eqv]
theorem dEq_bls {S : Sto} {i j : Nat} {xs ys : List D} (bs : List Bool) {B : KB} (h1 : S[i]? = some (.lst xs)) (h2 : S[j]? = some (.lst ys)) (e1 : xs = bs.map D.bl) (e2 : ys = bs.map D.bl) (k : B true S) : dEq (.ref i) (.ref j) S B := by
  subst e1
  subst e2
  refine ⟨.list (bs.map PyData.bool), .list (bs.map PyData.bool), ?_, ?_, bls_shaped bs, bls_shaped bs, ?_⟩
  · rw [toPy_ref 65 h1, toPy_bls]; rfl
  · rw [toPy_ref 65 h2, toPy_bls]; rfl
  · rw [PyData.eqv, eqv_bls]; exact k
theorem all_lcr {fs : List FSp} {S : Sto} {ρ : En} {xs : List D} {i p : Nat} {elt : IE} {own : List Nat} {B : KQ} (f : D → Bool) (hp : S[p]? = some (.lst xs)) (hl : xs.length ≤ 1000)
    (helt : ∀ d ∈ xs, ∀ S1 (R : KQ), Ext S S1 → (∀ S2, Ext S1 S2 → R (.bl (f d)) S2) → DW.wE fs elt ((wipeD ρ own).set i (some d)) S1 R)
    (hB : ∀ S' j, Ext S S' → S'[j]? = some (.lst ((xs.map f).map D.bl)) → B (.ref j) S') {e : IE} (he : DW.wE fs e ρ S = fun R => R (.ref p) S) :
    DW.wE fs (.lcp own (.name i) (.val e) .none elt) ρ S B := by
  simp only [DW.wE, DW.wI, he, iter_ref hp]
  refine cLoop_ext (fun d => some (.bl (f d))) (by simp only [LIM]; omega) (fun _ e => e _ _ hp) (fun d hd S1 ky kn e1 k => ?_) fun S' e1 e2 => hB S' _ e1 (by rw [e2]; simp)
  simp only [DW.wG, DW.wTs, if_true]
  exact helt d hd S1 _ e1 k

/-! ### the written part of the law -/
abbrev one : D := .tup [.str "all", .str "a", .str "b"]
abbrev hd : IB → IS
  | .cons s _ => s
  | .nil => .pass
abbrev tl : IB → IB
  | .cons _ r => r
  | .nil => .nil
abbrev T1 : IB := tl ir_law
abbrev T2 : IB := tl T1
abbrev T3 : IB := tl T2
abbrev T4 : IB := tl T3
abbrev T5 : IB := tl T4
abbrev T6 : IB := tl T5
abbrev T7 : IB := tl T6
abbrev T8 : IB := tl T7
abbrev T9 : IB := tl T8
abbrev T10 : IB := tl T9
abbrev T11 : IB := tl T10
abbrev T12 : IB := tl T11
section
variable {n : Nat} {E : DEnds} {S : Sto} {x0 x1 x2 x3 x4 x5 x6 x7 x8 x9 x10 x11 x12 x13 : Option D} {p : Nat} {xs : List D}
abbrev rw0 : List D := [.tup [one], .tup [.str "not", one], .tup [one, .str "and", one], .tup [.str "(", one, .str ")"]]
abbrev rw1 : List D := [.tup [.str "not", .str "(", .str "not", one, .str "or", one, .str ")"], .tup [one, one]]
abbrev rw2 : List D := [.tup [.str "not"], .tup [], .tup [.str "(", one], .tup [one, .str ")"], .tup [.str "and", one], .tup [one, .str "and"], .tup [.str "(", .str ")"], .tup [one, .str "not", one]]
abbrev rw3 : List D := [.tup ((List.replicate 15 [D.str "not"]).flatten ++ [one]), .tup ((List.replicate 16 [D.str "not"]).flatten ++ [one]), .tup ((List.replicate 3 [one, .str "or"]).flatten ++ [one]), .tup ((List.replicate 4 [one, .str "or"]).flatten ++ [one])]
abbrev rws : List D := rw0 ++ rw1 ++ rw2 ++ rw3
theorem st1 (h : E.nx [x0, x1, x2, x3, x4, x5, x6, x7, x8, some one, x10, x11, x12, x13] S) : wS (fsN n) (hd T1) E [x0, x1, x2, x3, x4, x5, x6, x7, x8, x9, x10, x11, x12, x13] S := by
  simp only [DW.wG, DW.wGs, gsLen, List.set_cons_succ, List.set_cons_zero, wB, wS, DW.wT, DW.wTs, DW.wE, DW.wA, DW.wO, DW.wI, List.getElem?_cons_succ, List.getElem?_cons_zero, cmp_eq, cmp_ne, cmp_in, cmp_nin, cmp_lt, cmp_le, cmp_gt, cmp_ge, tru_non, tru_bl, tru_int, tru_tup, op_addi, op_subi, op_muli, op_divi, op_modi, op_powi, op_addt, op_rept, len_tup, len_rol, idx_tup, idx_rol, slc_tup, iter_tup, iter_rol, eqc_int, LIM, Nat.reduceLeDiff, dBlt, dIsi, dInt1, defEnds, startD, List.map_cons, List.map_nil, List.length_cons, List.length_nil, List.replicate_succ, List.replicate_zero, List.cons_append, List.nil_append, Nat.reduceAdd, Nat.reduceSub, isRef, Nat.zero_add, and_true, true_and, if_true, Bool.false_eq_true, if_false, T1, T2, T3, T4, T5, T6, T7, T8, T9, T10, T11, T12, hd, tl, ir_law]
  exact h
theorem st2 (h : ∀ S' p', S'[p']? = some (.lst rw0) → E.nx [x0, x1, x2, x3, x4, x5, x6, x7, x8, some one, some (.ref p'), x11, x12, x13] S') : wS (fsN n) (hd T2) E [x0, x1, x2, x3, x4, x5, x6, x7, x8, some one, x10, x11, x12, x13] S := by
  simp only [DW.wG, DW.wGs, gsLen, List.set_cons_succ, List.set_cons_zero, wB, wS, DW.wT, DW.wTs, DW.wE, DW.wA, DW.wO, DW.wI, List.getElem?_cons_succ, List.getElem?_cons_zero, cmp_eq, cmp_ne, cmp_in, cmp_nin, cmp_lt, cmp_le, cmp_gt, cmp_ge, tru_non, tru_bl, tru_int, tru_tup, op_addi, op_subi, op_muli, op_divi, op_modi, op_powi, op_addt, op_rept, len_tup, len_rol, idx_tup, idx_rol, slc_tup, iter_tup, iter_rol, eqc_int, LIM, Nat.reduceLeDiff, dBlt, dIsi, dInt1, defEnds, startD, List.map_cons, List.map_nil, List.length_cons, List.length_nil, List.replicate_succ, List.replicate_zero, List.cons_append, List.nil_append, Nat.reduceAdd, Nat.reduceSub, isRef, Nat.zero_add, and_true, true_and, if_true, Bool.false_eq_true, if_false, T1, T2, T3, T4, T5, T6, T7, T8, T9, T10, T11, T12, hd, tl, ir_law]
  exact h _ _ (sto_last S _)
theorem st3 (hp : S[p]? = some (.lst xs)) (hl : xs.length ≤ 10) (h : ∀ S' p', S'[p']? = some (.lst (xs ++ rw1)) → E.nx [x0, x1, x2, x3, x4, x5, x6, x7, x8, some one, some (.ref p'), x11, x12, x13] S') : wS (fsN n) (hd T3) E [x0, x1, x2, x3, x4, x5, x6, x7, x8, some one, some (.ref p), x11, x12, x13] S := by
  simp only [DW.wG, DW.wGs, gsLen, List.set_cons_succ, List.set_cons_zero, wB, wS, DW.wT, DW.wTs, DW.wE, DW.wA, DW.wO, DW.wI, List.getElem?_cons_succ, List.getElem?_cons_zero, cmp_eq, cmp_ne, cmp_in, cmp_nin, cmp_lt, cmp_le, cmp_gt, cmp_ge, tru_non, tru_bl, tru_int, tru_tup, op_addi, op_subi, op_muli, op_divi, op_modi, op_powi, op_addt, op_rept, len_tup, len_rol, idx_tup, idx_rol, slc_tup, iter_tup, iter_rol, eqc_int, LIM, Nat.reduceLeDiff, dBlt, dIsi, dInt1, defEnds, startD, List.map_cons, List.map_nil, List.length_cons, List.length_nil, List.replicate_succ, List.replicate_zero, List.cons_append, List.nil_append, Nat.reduceAdd, Nat.reduceSub, isRef, Nat.zero_add, and_true, true_and, if_true, Bool.false_eq_true, if_false, T1, T2, T3, T4, T5, T6, T7, T8, T9, T10, T11, T12, hd, tl, ir_law]
  exact add_l (Ext.app S _ _ _ hp) (sto_last S _) (by simp only [List.length_cons, List.length_nil]; omega) fun S' p' _ hp' => h S' p' hp'
theorem st4 (hp : S[p]? = some (.lst xs)) (hl : xs.length ≤ 10) (h : ∀ S' p', S'[p']? = some (.lst (xs ++ rw2)) → E.nx [x0, x1, x2, x3, x4, x5, x6, x7, x8, some one, some (.ref p'), x11, x12, x13] S') : wS (fsN n) (hd T4) E [x0, x1, x2, x3, x4, x5, x6, x7, x8, some one, some (.ref p), x11, x12, x13] S := by
  simp only [DW.wG, DW.wGs, gsLen, List.set_cons_succ, List.set_cons_zero, wB, wS, DW.wT, DW.wTs, DW.wE, DW.wA, DW.wO, DW.wI, List.getElem?_cons_succ, List.getElem?_cons_zero, cmp_eq, cmp_ne, cmp_in, cmp_nin, cmp_lt, cmp_le, cmp_gt, cmp_ge, tru_non, tru_bl, tru_int, tru_tup, op_addi, op_subi, op_muli, op_divi, op_modi, op_powi, op_addt, op_rept, len_tup, len_rol, idx_tup, idx_rol, slc_tup, iter_tup, iter_rol, eqc_int, LIM, Nat.reduceLeDiff, dBlt, dIsi, dInt1, defEnds, startD, List.map_cons, List.map_nil, List.length_cons, List.length_nil, List.replicate_succ, List.replicate_zero, List.cons_append, List.nil_append, Nat.reduceAdd, Nat.reduceSub, isRef, Nat.zero_add, and_true, true_and, if_true, Bool.false_eq_true, if_false, T1, T2, T3, T4, T5, T6, T7, T8, T9, T10, T11, T12, hd, tl, ir_law]
  exact add_l (Ext.app S _ _ _ hp) (sto_last S _) (by simp only [List.length_cons, List.length_nil]; omega) fun S' p' _ hp' => h S' p' hp'
theorem st5 (hp : S[p]? = some (.lst xs)) (hl : xs.length ≤ 20) (h : ∀ S' p', S'[p']? = some (.lst (xs ++ rw3)) → E.nx [x0, x1, x2, x3, x4, x5, x6, x7, x8, some one, some (.ref p'), x11, x12, x13] S') : wS (fsN n) (hd T5) E [x0, x1, x2, x3, x4, x5, x6, x7, x8, some one, some (.ref p), x11, x12, x13] S := by
  simp only [DW.wG, DW.wGs, gsLen, List.set_cons_succ, List.set_cons_zero, wB, wS, DW.wT, DW.wTs, DW.wE, DW.wA, DW.wO, DW.wI, List.getElem?_cons_succ, List.getElem?_cons_zero, cmp_eq, cmp_ne, cmp_in, cmp_nin, cmp_lt, cmp_le, cmp_gt, cmp_ge, tru_non, tru_bl, tru_int, tru_tup, op_addi, op_subi, op_muli, op_divi, op_modi, op_powi, op_addt, op_rept, len_tup, len_rol, idx_tup, idx_rol, slc_tup, iter_tup, iter_rol, eqc_int, LIM, Nat.reduceLeDiff, dBlt, dIsi, dInt1, defEnds, startD, List.map_cons, List.map_nil, List.length_cons, List.length_nil, List.replicate_succ, List.replicate_zero, List.cons_append, List.nil_append, Nat.reduceAdd, Nat.reduceSub, isRef, Nat.zero_add, and_true, true_and, if_true, Bool.false_eq_true, if_false, T1, T2, T3, T4, T5, T6, T7, T8, T9, T10, T11, T12, hd, tl, ir_law]
  refine ⟨⟨by simp, by decide, by decide⟩, by decide, ?_⟩
  refine ⟨⟨by simp, by decide, by decide⟩, by decide, ?_⟩
  refine ⟨⟨by simp, by decide, by decide⟩, by decide, ?_⟩
  refine ⟨⟨by simp, by decide, by decide⟩, by decide, ?_⟩
  exact add_l (Ext.app S _ _ _ hp) (sto_last S _) (by simp only [List.length_cons, List.length_nil]; omega) fun S' p' _ hp' => h S' p' hp'
abbrev duL : List D := (List.replicate 5 [D.bl true]).flatten ++ (List.replicate 9 [D.bl false]).flatten ++ [.bl true, .bl false, .bl true, .bl false]
theorem st6 (h : ∀ S' q, Ext S S' → S'[q]? = some (.lst duL) → E.nx [x0, x1, x2, x3, x4, x5, x6, x7, x8, some one, x10, some (.ref q), x12, x13] S') : wS (fsN n) (hd T6) E [x0, x1, x2, x3, x4, x5, x6, x7, x8, some one, x10, x11, x12, x13] S := by
  simp only [DW.wG, DW.wGs, gsLen, List.set_cons_succ, List.set_cons_zero, wB, wS, DW.wT, DW.wTs, DW.wE, DW.wA, DW.wO, DW.wI, List.getElem?_cons_succ, List.getElem?_cons_zero, cmp_eq, cmp_ne, cmp_in, cmp_nin, cmp_lt, cmp_le, cmp_gt, cmp_ge, tru_non, tru_bl, tru_int, tru_tup, op_addi, op_subi, op_muli, op_divi, op_modi, op_powi, op_addt, op_rept, len_tup, len_rol, idx_tup, idx_rol, slc_tup, iter_tup, iter_rol, eqc_int, LIM, Nat.reduceLeDiff, dBlt, dIsi, dInt1, defEnds, startD, List.map_cons, List.map_nil, List.length_cons, List.length_nil, List.replicate_succ, List.replicate_zero, List.cons_append, List.nil_append, Nat.reduceAdd, Nat.reduceSub, isRef, Nat.zero_add, and_true, true_and, if_true, Bool.false_eq_true, if_false, T1, T2, T3, T4, T5, T6, T7, T8, T9, T10, T11, T12, hd, tl, ir_law]
  refine rep_l (i := 5) (sto_last S _) (by decide) (by decide) fun S1 p1 e1 h1 => ?_
  refine rep_l (i := 9) (sto_last S1 _) (by decide) (by decide) fun S2 p2 e2 h2 => ?_
  have f1 := (Ext.app S1 [Ob.lst [D.bl false]]).trans e2
  refine add_l (f1 _ _ h1) h2 (by decide) fun S3 p3 e3 h3 => ?_
  refine add_l (Ext.app S3 _ _ _ h3) (sto_last S3 _) (by decide) fun S4 p4 e4 h4 => ?_
  exact h S4 p4 (((((Ext.app S _).trans e1).trans f1).trans e3).trans ((Ext.app S3 _).trans e4)) h4
theorem notice_rows : rws.map isNotice = [true, true, true, true, true, false, false, false, false, false, false, false, false, false, true, false, true, false] := by decide +kernel
theorem wk_rows : rws.all wk = true := by decide +kernel
theorem law_l2 {ys : List D} {Q : KQ} (hn : 4 ≤ n) (hp : S[p]? = some (.lst ys)) (hl : ys.length ≤ 1000) (hf : ∀ d ∈ ys, Fit S d) (k : ∀ S' j, Ext S S' → S'[j]? = some (.lst ((ys.map isNotice).map D.bl)) → Q (.ref j) S') :
    wE (fsN n) ir_law_l2 [x0, x1, x2, x3, x4, x5, x6, x7, x8, x9, some (.ref p), x11, x12, x13] S Q := by
  unfold ir_law_l2
  refine all_lcr isNotice hp hl (fun d hd S1 R e1 g => ?_) k (by funext R; rfl)
  simp only [DW.wG, DW.wGs, gsLen, List.set_cons_succ, List.set_cons_zero, wB, wS, DW.wT, DW.wTs, DW.wE, DW.wA, DW.wO, DW.wI, List.getElem?_cons_succ, List.getElem?_cons_zero, cmp_eq, cmp_ne, cmp_in, cmp_nin, cmp_lt, cmp_le, cmp_gt, cmp_ge, tru_non, tru_bl, tru_int, tru_tup, op_addi, op_subi, op_muli, op_divi, op_modi, op_powi, op_addt, op_rept, len_tup, len_rol, idx_tup, idx_rol, slc_tup, iter_tup, iter_rol, eqc_int, LIM, Nat.reduceLeDiff, dBlt, dIsi, dInt1, defEnds, startD, List.map_cons, List.map_nil, List.length_cons, List.length_nil, List.replicate_succ, List.replicate_zero, List.cons_append, List.nil_append, Nat.reduceAdd, Nat.reduceSub, isRef, Nat.zero_add, and_true, true_and, if_true, Bool.false_eq_true, if_false, wipeD, f1]
  exact ⟨by omega, d, rfl, (hf d hd).ext e1, fun S2 e2 => g S2 e2⟩
theorem law_l1 {ys : List D} {Q : KQ} (hn : 14 ≤ n) (hp : S[p]? = some (.lst ys)) (hl : ys.length ≤ 1000) (hf : ∀ d ∈ ys, Fit S d) (k : ∀ S' j, Ext S S' → S'[j]? = some (.lst ((ys.map (isNest 10)).map D.bl)) → Q (.ref j) S') :
    wE (fsN n) ir_law_l1 [x0, x1, x2, x3, x4, x5, x6, x7, x8, x9, x10, x11, some (.ref p), x13] S Q := by
  unfold ir_law_l1
  refine all_lcr (isNest 10) hp hl (fun d hd S1 R e1 g => ?_) k (by funext R; rfl)
  simp only [DW.wG, DW.wGs, gsLen, List.set_cons_succ, List.set_cons_zero, wB, wS, DW.wT, DW.wTs, DW.wE, DW.wA, DW.wO, DW.wI, List.getElem?_cons_succ, List.getElem?_cons_zero, cmp_eq, cmp_ne, cmp_in, cmp_nin, cmp_lt, cmp_le, cmp_gt, cmp_ge, tru_non, tru_bl, tru_int, tru_tup, op_addi, op_subi, op_muli, op_divi, op_modi, op_powi, op_addt, op_rept, len_tup, len_rol, idx_tup, idx_rol, slc_tup, iter_tup, iter_rol, eqc_int, LIM, Nat.reduceLeDiff, dBlt, dIsi, dInt1, defEnds, startD, List.map_cons, List.map_nil, List.length_cons, List.length_nil, List.replicate_succ, List.replicate_zero, List.cons_append, List.nil_append, Nat.reduceAdd, Nat.reduceSub, isRef, Nat.zero_add, and_true, true_and, if_true, Bool.false_eq_true, if_false, wipeD, f3]
  exact ⟨by omega, d, rfl, (hf d hd).ext e1, g S1 (Ext.refl S1)⟩
theorem law_l0 {ys : List D} {Q : KQ} (hn : 4 ≤ n) (hp : S[p]? = some (.lst ys)) (hl : ys.length ≤ 1000) (hf : ∀ d ∈ ys, Fit S d) (k : ∀ S' j, Ext S S' → S'[j]? = some (.lst ((ys.map isHouse).map D.bl)) → Q (.ref j) S') :
    wE (fsN n) ir_law_l0 [x0, x1, x2, x3, x4, x5, x6, x7, x8, x9, some (.ref p), x11, x12, x13] S Q := by
  unfold ir_law_l0
  refine all_lcr isHouse hp hl (fun d hd S1 R e1 g => ?_) k (by funext R; rfl)
  simp only [DW.wG, DW.wGs, gsLen, List.set_cons_succ, List.set_cons_zero, wB, wS, DW.wT, DW.wTs, DW.wE, DW.wA, DW.wO, DW.wI, List.getElem?_cons_succ, List.getElem?_cons_zero, cmp_eq, cmp_ne, cmp_in, cmp_nin, cmp_lt, cmp_le, cmp_gt, cmp_ge, tru_non, tru_bl, tru_int, tru_tup, op_addi, op_subi, op_muli, op_divi, op_modi, op_powi, op_addt, op_rept, len_tup, len_rol, idx_tup, idx_rol, slc_tup, iter_tup, iter_rol, eqc_int, LIM, Nat.reduceLeDiff, dBlt, dIsi, dInt1, defEnds, startD, List.map_cons, List.map_nil, List.length_cons, List.length_nil, List.replicate_succ, List.replicate_zero, List.cons_append, List.nil_append, Nat.reduceAdd, Nat.reduceSub, isRef, Nat.zero_add, and_true, true_and, if_true, Bool.false_eq_true, if_false, wipeD, f2]
  exact ⟨by omega, d, rfl, (hf d hd).ext e1, fun S2 e2 => g S2 e2⟩
theorem st7 {q : Nat} (hn : 20 ≤ n) (hp : S[p]? = some (.lst rws)) (hq : S[q]? = some (.lst duL)) (h : ∀ S', E.nx [x0, x1, x2, x3, x4, x5, x6, x7, x8, some one, some (.ref p), some (.ref q), x12, x13] S') : wS (fsN n) (hd T7) E [x0, x1, x2, x3, x4, x5, x6, x7, x8, some one, some (.ref p), some (.ref q), x12, x13] S := by
  simp only [DW.wG, DW.wGs, gsLen, List.set_cons_succ, List.set_cons_zero, wB, wS, DW.wT, DW.wTs, DW.wE, DW.wA, DW.wO, DW.wI, List.getElem?_cons_succ, List.getElem?_cons_zero, cmp_eq, cmp_ne, cmp_in, cmp_nin, cmp_lt, cmp_le, cmp_gt, cmp_ge, tru_non, tru_bl, tru_int, tru_tup, op_addi, op_subi, op_muli, op_divi, op_modi, op_powi, op_addt, op_rept, len_tup, len_rol, idx_tup, idx_rol, slc_tup, iter_tup, iter_rol, eqc_int, LIM, Nat.reduceLeDiff, dBlt, dIsi, dInt1, defEnds, startD, List.map_cons, List.map_nil, List.length_cons, List.length_nil, List.replicate_succ, List.replicate_zero, List.cons_append, List.nil_append, Nat.reduceAdd, Nat.reduceSub, isRef, Nat.zero_add, and_true, true_and, if_true, Bool.false_eq_true, if_false, T1, T2, T3, T4, T5, T6, T7, T8, T9, T10, T11, T12, hd, tl, ir_law, f1]
  refine law_l2 (by omega) hp (by decide) (fun d hd => wk_fit (List.all_eq_true.mp wk_rows d hd)) fun S1 j e1 hj => ?_
  refine dEq_bls _ hj (e1 _ _ hq) rfl (by rw [notice_rows]; rfl) ?_
  simp only [Bool.not_true, if_true, true_and, Bool.false_eq_true, if_false, Bool.and_true, Bool.and_false, Bool.true_and, Bool.false_and, Bool.not_true, Bool.not_false, Bool.or_true, Bool.or_false, Bool.true_or, Bool.false_or]
  refine ⟨by omega, _, rfl, wk_fit (by decide +kernel), fun S2 e2 => ?_⟩
  have no : isNotice (.tup [.tup [.str "has", .int 0, .str "a"]]) = false := by decide +kernel
  simp only [DW.wG, DW.wGs, gsLen, List.set_cons_succ, List.set_cons_zero, wB, wS, DW.wT, DW.wTs, DW.wE, DW.wA, DW.wO, DW.wI, List.getElem?_cons_succ, List.getElem?_cons_zero, cmp_eq, cmp_ne, cmp_in, cmp_nin, cmp_lt, cmp_le, cmp_gt, cmp_ge, tru_non, tru_bl, tru_int, tru_tup, op_addi, op_subi, op_muli, op_divi, op_modi, op_powi, op_addt, op_rept, len_tup, len_rol, idx_tup, idx_rol, slc_tup, iter_tup, iter_rol, eqc_int, LIM, Nat.reduceLeDiff, dBlt, dIsi, dInt1, defEnds, startD, List.map_cons, List.map_nil, List.length_cons, List.length_nil, List.replicate_succ, List.replicate_zero, List.cons_append, List.nil_append, Nat.reduceAdd, Nat.reduceSub, isRef, Nat.zero_add, and_true, true_and, if_true, Bool.false_eq_true, if_false, no]
  exact h S2
theorem st8 (hn : 20 ≤ n) (h : ∀ S', E.nx [x0, x1, x2, x3, x4, x5, x6, x7, x8, some one, x10, x11, x12, x13] S') : wS (fsN n) (hd T8) E [x0, x1, x2, x3, x4, x5, x6, x7, x8, some one, x10, x11, x12, x13] S := by
  simp only [DW.wG, DW.wGs, gsLen, List.set_cons_succ, List.set_cons_zero, wB, wS, DW.wT, DW.wTs, DW.wE, DW.wA, DW.wO, DW.wI, List.getElem?_cons_succ, List.getElem?_cons_zero, cmp_eq, cmp_ne, cmp_in, cmp_nin, cmp_lt, cmp_le, cmp_gt, cmp_ge, tru_non, tru_bl, tru_int, tru_tup, op_addi, op_subi, op_muli, op_divi, op_modi, op_powi, op_addt, op_rept, len_tup, len_rol, idx_tup, idx_rol, slc_tup, iter_tup, iter_rol, eqc_int, LIM, Nat.reduceLeDiff, dBlt, dIsi, dInt1, defEnds, startD, List.map_cons, List.map_nil, List.length_cons, List.length_nil, List.replicate_succ, List.replicate_zero, List.cons_append, List.nil_append, Nat.reduceAdd, Nat.reduceSub, isRef, Nat.zero_add, and_true, true_and, if_true, Bool.false_eq_true, if_false, T1, T2, T3, T4, T5, T6, T7, T8, T9, T10, T11, T12, hd, tl, ir_law, f1]
  refine ⟨by omega, _, rfl, wk_fit (by decide +kernel), fun S2 e2 => ?_⟩
  have no : isNotice (.tup [.tup [.str "all", .str "a", .str "a"]]) = false := by decide +kernel
  simp only [DW.wG, DW.wGs, gsLen, List.set_cons_succ, List.set_cons_zero, wB, wS, DW.wT, DW.wTs, DW.wE, DW.wA, DW.wO, DW.wI, List.getElem?_cons_succ, List.getElem?_cons_zero, cmp_eq, cmp_ne, cmp_in, cmp_nin, cmp_lt, cmp_le, cmp_gt, cmp_ge, tru_non, tru_bl, tru_int, tru_tup, op_addi, op_subi, op_muli, op_divi, op_modi, op_powi, op_addt, op_rept, len_tup, len_rol, idx_tup, idx_rol, slc_tup, iter_tup, iter_rol, eqc_int, LIM, Nat.reduceLeDiff, dBlt, dIsi, dInt1, defEnds, startD, List.map_cons, List.map_nil, List.length_cons, List.length_nil, List.replicate_succ, List.replicate_zero, List.cons_append, List.nil_append, Nat.reduceAdd, Nat.reduceSub, isRef, Nat.zero_add, and_true, true_and, if_true, Bool.false_eq_true, if_false, no]
  exact h S2
def dlS : Nat → D
  | 0 => one
  | t + 1 => .tup [.str "not", dlS t]
def prS : Nat → List D
  | 0 => []
  | t + 1 => prS t ++ [dlS t]
theorem pr_len : ∀ t, (prS t).length = t
  | 0 => rfl
  | t + 1 => by simp only [prS, List.length_append, List.length_cons, List.length_nil, pr_len t]
theorem at_last (ys : List D) (y : D) : atI (ys ++ [y]) (-1) = some y := by
  unfold atI ixN
  have e1 : ¬ (0 : Int) ≤ -1 := by decide
  have e2 : -(((ys ++ [y]).length : Nat) : Int) ≤ -1 := by simp; omega
  have e3 : ((-1 : Int) + ((ys ++ [y]).length : Nat)).toNat = ys.length := by simp; omega
  rw [if_neg e1, if_pos e2, e3]
  show (ys ++ [y])[ys.length]? = some y
  simp
theorem st9 (h : ∀ S' p', S'[p']? = some (.lst (prS 0 ++ [dlS 0])) → E.nx [x0, x1, x2, x3, x4, x5, x6, x7, x8, some one, x10, x11, some (.ref p'), x13] S') : wS (fsN n) (hd T9) E [x0, x1, x2, x3, x4, x5, x6, x7, x8, some one, x10, x11, x12, x13] S := by
  simp only [DW.wG, DW.wGs, gsLen, List.set_cons_succ, List.set_cons_zero, wB, wS, DW.wT, DW.wTs, DW.wE, DW.wA, DW.wO, DW.wI, List.getElem?_cons_succ, List.getElem?_cons_zero, cmp_eq, cmp_ne, cmp_in, cmp_nin, cmp_lt, cmp_le, cmp_gt, cmp_ge, tru_non, tru_bl, tru_int, tru_tup, op_addi, op_subi, op_muli, op_divi, op_modi, op_powi, op_addt, op_rept, len_tup, len_rol, idx_tup, idx_rol, slc_tup, iter_tup, iter_rol, eqc_int, LIM, Nat.reduceLeDiff, dBlt, dIsi, dInt1, defEnds, startD, List.map_cons, List.map_nil, List.length_cons, List.length_nil, List.replicate_succ, List.replicate_zero, List.cons_append, List.nil_append, Nat.reduceAdd, Nat.reduceSub, isRef, Nat.zero_add, and_true, true_and, if_true, Bool.false_eq_true, if_false, T1, T2, T3, T4, T5, T6, T7, T8, T9, T10, T11, T12, hd, tl, ir_law]
  exact h _ _ (sto_last S _)
theorem deep_b0 {t : Nat} (ht : t ≤ 10) (hp : S[p]? = some (.lst (prS t ++ [dlS t]))) (h : ∀ S', S'[p]? = some (.lst (prS (t + 1) ++ [dlS (t + 1)])) → E.nx [x0, x1, x2, x3, x4, x5, x6, x7, x8, x9, x10, x11, some (.ref p), x13] S') :
    wB (fsN n) ir_law_b0 E [x0, x1, x2, x3, x4, x5, x6, x7, x8, x9, x10, x11, some (.ref p), x13] S := by
  simp only [DW.wG, DW.wGs, gsLen, List.set_cons_succ, List.set_cons_zero, wB, wS, DW.wT, DW.wTs, DW.wE, DW.wA, DW.wO, DW.wI, List.getElem?_cons_succ, List.getElem?_cons_zero, cmp_eq, cmp_ne, cmp_in, cmp_nin, cmp_lt, cmp_le, cmp_gt, cmp_ge, tru_non, tru_bl, tru_int, tru_tup, op_addi, op_subi, op_muli, op_divi, op_modi, op_powi, op_addt, op_rept, len_tup, len_rol, idx_tup, idx_rol, slc_tup, iter_tup, iter_rol, eqc_int, LIM, Nat.reduceLeDiff, dBlt, dIsi, dInt1, defEnds, startD, List.map_cons, List.map_nil, List.length_cons, List.length_nil, List.replicate_succ, List.replicate_zero, List.cons_append, List.nil_append, Nat.reduceAdd, Nat.reduceSub, isRef, Nat.zero_add, and_true, true_and, if_true, Bool.false_eq_true, if_false, ir_law_b0]
  rw [idx_ref hp]
  refine ⟨_, at_last _ _, ?_⟩
  simp only [app_ref hp]
  exact ⟨by simp only [List.length_append, pr_len, List.length_cons, List.length_nil, LIM]; omega, h _ (sto_set hp)⟩
theorem deep_loop : ∀ (l : List Int) (t : Nat) (S : Sto) (x8 : Option D), t + l.length = 10 → S[p]? = some (.lst (prS t ++ [dlS t])) → (∀ S' x8', S'[p]? = some (.lst (prS 10 ++ [dlS 10])) → E.nx [x0, x1, x2, x3, x4, x5, x6, x7, x8', x9, x10, x11, some (.ref p), x13] S') →
    fLoop (fun _ => True) (fun d ρ' S' k => DW.wG (fsN n) (.name 8) d ρ' S' k) (fun E' ρ' S' => wB (fsN n) ir_law_b0 E' ρ' S') E (l.map D.int) [x0, x1, x2, x3, x4, x5, x6, x7, x8, x9, x10, x11, some (.ref p), x13] S
  | [], t, S, x8, ht, hp, h => by
    have : t = 10 := by simpa using ht
    subst this
    exact ⟨trivial, h S x8 hp⟩
  | i :: r, t, S, x8, ht, hp, h => by
    refine ⟨trivial, ?_⟩
    show wB (fsN n) ir_law_b0 _ [x0, x1, x2, x3, x4, x5, x6, x7, some (.int i), x9, x10, x11, some (.ref p), x13] S
    simp only [List.length_cons] at ht
    refine deep_b0 (t := t) (by omega) hp fun S' h' => ?_
    exact deep_loop r (t + 1) S' _ (by omega) h' h
theorem st10 (hp : S[p]? = some (.lst (prS 0 ++ [dlS 0]))) (h : ∀ S' x8', S'[p]? = some (.lst (prS 10 ++ [dlS 10])) → E.nx [x0, x1, x2, x3, x4, x5, x6, x7, x8', x9, x10, x11, some (.ref p), x13] S') : wS (fsN n) (hd T10) E [x0, x1, x2, x3, x4, x5, x6, x7, x8, x9, x10, x11, some (.ref p), x13] S := by
  simp only [DW.wG, DW.wGs, gsLen, List.set_cons_succ, List.set_cons_zero, wB, wS, DW.wT, DW.wTs, DW.wE, DW.wA, DW.wO, DW.wI, List.getElem?_cons_succ, List.getElem?_cons_zero, cmp_eq, cmp_ne, cmp_in, cmp_nin, cmp_lt, cmp_le, cmp_gt, cmp_ge, tru_non, tru_bl, tru_int, tru_tup, op_addi, op_subi, op_muli, op_divi, op_modi, op_powi, op_addt, op_rept, len_tup, len_rol, idx_tup, idx_rol, slc_tup, iter_tup, iter_rol, eqc_int, LIM, Nat.reduceLeDiff, dBlt, dIsi, dInt1, defEnds, startD, List.map_cons, List.map_nil, List.length_cons, List.length_nil, List.replicate_succ, List.replicate_zero, List.cons_append, List.nil_append, Nat.reduceAdd, Nat.reduceSub, isRef, Nat.zero_add, and_true, true_and, if_true, Bool.false_eq_true, if_false, T1, T2, T3, T4, T5, T6, T7, T8, T9, T10, T11, T12, hd, tl, ir_law]
  refine ⟨⟨by decide, by decide⟩, ?_⟩
  rw [ints_mp]
  exact deep_loop ((List.range 10).map fun (i : Nat) => 0 + (i : Int)) 0 S x8 (by decide) hp h
theorem deep_rows : (prS 10 ++ [dlS 10]).map (isNest 10) = [true, true, true, true, true, true, true, true, true, true, false] := by decide +kernel
theorem wk_deep : (prS 10 ++ [dlS 10]).all wk = true := by decide +kernel
theorem st11 (hn : 20 ≤ n) (hp : S[p]? = some (.lst (prS 10 ++ [dlS 10]))) (h : ∀ S', E.nx [x0, x1, x2, x3, x4, x5, x6, x7, x8, x9, x10, x11, some (.ref p), x13] S') : wS (fsN n) (hd T11) E [x0, x1, x2, x3, x4, x5, x6, x7, x8, x9, x10, x11, some (.ref p), x13] S := by
  simp only [DW.wG, DW.wGs, gsLen, List.set_cons_succ, List.set_cons_zero, wB, wS, DW.wT, DW.wTs, DW.wE, DW.wA, DW.wO, DW.wI, List.getElem?_cons_succ, List.getElem?_cons_zero, cmp_eq, cmp_ne, cmp_in, cmp_nin, cmp_lt, cmp_le, cmp_gt, cmp_ge, tru_non, tru_bl, tru_int, tru_tup, op_addi, op_subi, op_muli, op_divi, op_modi, op_powi, op_addt, op_rept, len_tup, len_rol, idx_tup, idx_rol, slc_tup, iter_tup, iter_rol, eqc_int, LIM, Nat.reduceLeDiff, dBlt, dIsi, dInt1, defEnds, startD, List.map_cons, List.map_nil, List.length_cons, List.length_nil, List.replicate_succ, List.replicate_zero, List.cons_append, List.nil_append, Nat.reduceAdd, Nat.reduceSub, isRef, Nat.zero_add, and_true, true_and, if_true, Bool.false_eq_true, if_false, T1, T2, T3, T4, T5, T6, T7, T8, T9, T10, T11, T12, hd, tl, ir_law]
  refine law_l1 (by omega) hp (by decide) (fun d hd => wk_fit (List.all_eq_true.mp wk_deep d hd)) fun S1 j e1 hj => ?_
  refine rep_l (i := 10) (sto_last S1 _) (by decide) (by simp) fun S2 p2 e2 h2 => ?_
  refine add_l (Ext.app S2 _ _ _ h2) (sto_last S2 _) (by simp) fun S3 p3 e3 h3 => ?_
  have E3 := ((Ext.app S1 _).trans e2).trans ((Ext.app S2 [Ob.lst [D.bl false]]).trans e3)
  refine dEq_bls _ (E3 _ _ hj) h3 rfl (by rw [deep_rows]; rfl) ?_
  simp only [Bool.not_true, if_true, true_and, Bool.false_eq_true, if_false, Bool.and_true, Bool.and_false, Bool.true_and, Bool.false_and, Bool.not_true, Bool.not_false, Bool.or_true, Bool.or_false, Bool.true_or, Bool.false_or]
  exact h S3
end
/-- the houses -/
abbrev hr6 : List D := [.tup [.int 0, .int 0, .int 0, .int 0], .tup (List.replicate 4 [D.int (10 ^ 30)]).flatten, .tup [.int (10 ^ 30 + 1), .int 0, .int 0, .int 0], .tup [.int 0, .int 0, .int 0], .tup [.bl true, .int 0, .int 0, .int 0], .tup [.int 0, .int 0, .int 0, .int (-1)]]
def hrs (q : Nat) : List D := hr6 ++ [.ref q]
theorem house_rows (q : Nat) : (hrs q).map isHouse = [true, true, false, false, false, false, false] := by
  have h : hr6.map isHouse = [true, true, false, false, false, false] := by decide +kernel
  unfold hrs
  rw [List.map_append, h]
  rfl
theorem wk_house : hr6.all wk = true := by decide +kernel
section
variable {n : Nat} {E : DEnds} {S : Sto} {x0 x1 x2 x3 x4 x5 x6 x7 x8 x9 x10 x11 x12 x13 : Option D} {p : Nat} {xs : List D}
theorem st12 {Q : KQ} (hn : 20 ≤ n) (h : ∀ S', Q (.bl true) S') : wB (fsN n) T12 (defEnds Q) [x0, x1, x2, x3, x4, x5, x6, x7, x8, x9, x10, x11, x12, x13] S := by
  simp only [DW.wG, DW.wGs, gsLen, List.set_cons_succ, List.set_cons_zero, wB, wS, DW.wT, DW.wTs, DW.wE, DW.wA, DW.wO, DW.wI, List.getElem?_cons_succ, List.getElem?_cons_zero, cmp_eq, cmp_ne, cmp_in, cmp_nin, cmp_lt, cmp_le, cmp_gt, cmp_ge, tru_non, tru_bl, tru_int, tru_tup, op_addi, op_subi, op_muli, op_divi, op_modi, op_powi, op_addt, op_rept, len_tup, len_rol, idx_tup, idx_rol, slc_tup, iter_tup, iter_rol, eqc_int, LIM, Nat.reduceLeDiff, dBlt, dIsi, dInt1, defEnds, startD, List.map_cons, List.map_nil, List.length_cons, List.length_nil, List.replicate_succ, List.replicate_zero, List.cons_append, List.nil_append, Nat.reduceAdd, Nat.reduceSub, isRef, Nat.zero_add, and_true, true_and, if_true, Bool.false_eq_true, if_false, T1, T2, T3, T4, T5, T6, T7, T8, T9, T10, T11, T12, hd, tl, ir_law]
  have c1 : CPow 10 30 := ⟨by decide, by decide, by decide⟩
  refine ⟨c1, ⟨by simp, by decide, by decide⟩, c1, ?_⟩
  refine rep_l (i := 4) (sto_last S _) (by decide) (by simp) fun S1 q e1 h1 => ?_
  show wE (fsN n) ir_law_l0 [x0, x1, x2, x3, x4, x5, x6, x7, x8, x9, some (D.ref S1.length), x11, x12, x13] (S1 ++ [Ob.lst (hrs q)]) _
  have hq := Ext.app S1 [Ob.lst (hrs q)] _ _ h1
  refine law_l0 (by omega) (sto_last S1 _) (by simp [hrs]) (fun d hd => ?_) fun S2 j e2 hj => ?_
  · rcases List.mem_append.mp hd with hd | hd
    · exact wk_fit (List.all_eq_true.mp wk_house d hd)
    · rw [List.mem_singleton.mp hd]
      refine ⟨10, 5, by omega, ?_⟩
      simp only [okd, hq]
      rfl
  · refine dEq_bls _ (Ext.app S2 _ _ _ hj) (sto_last S2 _) rfl (by rw [house_rows]; rfl) ?_
    exact h _
end
theorem stepB {fs : List FSp} {b r : IB} {s : IS} {E : DEnds} {ρ : En} {S : Sto} (e : b = .cons s r) (h : wS fs s { E with nx := fun ρ' S' => wB fs r E ρ' S' } ρ S) : wB fs b E ρ S := by
  rw [e]
  exact h
theorem ob_law (n : Nat) (ds : List D) (S : Sto) (Q : KQ) (h : lv (n + 1) 60 spLaw ds S Q) : wB (fsN n) ir_law (defEnds Q) (startD C_law.N ds) S := by
  obtain ⟨hl, ns, rfl, hlen, q⟩ := h
  show wS (fsN n) (hd ir_law) { defEnds Q with nx := fun ρ S => wB (fsN n) T1 (defEnds Q) ρ S } _ S
  have st0 : ∀ (E : DEnds), (∀ S' x1 x2 x3 x4 x5 x6 x7 x8, E.nx [some (.rol (ns.map D.int)), x1, x2, x3, x4, x5, x6, x7, x8, none, none, none, none, none] S') → wS (fsN n) (hd ir_law) E (startD C_law.N [.rol (ns.map D.int)]) S := fun E h => by
    simp only [DW.wG, DW.wGs, gsLen, List.set_cons_succ, List.set_cons_zero, wB, wS, DW.wT, DW.wTs, DW.wE, DW.wA, DW.wO, DW.wI, List.getElem?_cons_succ, List.getElem?_cons_zero, cmp_eq, cmp_ne, cmp_in, cmp_nin, cmp_lt, cmp_le, cmp_gt, cmp_ge, tru_non, tru_bl, tru_int, tru_tup, op_addi, op_subi, op_muli, op_divi, op_modi, op_powi, op_addt, op_rept, len_tup, len_rol, idx_tup, idx_rol, slc_tup, iter_tup, iter_rol, eqc_int, LIM, Nat.reduceLeDiff, dBlt, dIsi, dInt1, defEnds, startD, List.map_cons, List.map_nil, List.length_cons, List.length_nil, List.replicate_succ, List.replicate_zero, List.cons_append, List.nil_append, Nat.reduceAdd, Nat.reduceSub, isRef, Nat.zero_add, and_true, true_and, if_true, Bool.false_eq_true, if_false, hd, ir_law, List.length_map]
    have hw : ∃ k : Nat, k ≤ 63 ∧ (1 + (if (10 : Int) < (ns.length : Int) then 10 else (ns.length : Int))) = (k : Int) := by
      refine ⟨(1 + (if (10 : Int) < (ns.length : Int) then 10 else (ns.length : Int))).toNat, ?_, ?_⟩ <;> split <;> omega
    obtain ⟨k, hk, e⟩ := hw
    simp only [e]
    refine ⟨⟨by omega, by omega⟩, ?_⟩
    rw [Int.toNat_natCast, ints_map]
    exact law_rounds (by omega) hlen _ S none none none none none none none none (fun z hz => by have := List.mem_range.mp hz; omega) h
  refine st0 _ fun S1 x1 x2 x3 x4 x5 x6 x7 x8 => ?_
  have h20 : 20 ≤ n := by omega
  dsimp only
  refine stepB (b := T1) (s := hd T1) (r := T2) rfl ?_
  refine st1 ?_
  dsimp only
  refine stepB (b := T2) (s := hd T2) (r := T3) rfl ?_
  refine st2 fun S2 p2 h2 => ?_
  dsimp only
  refine stepB (b := T3) (s := hd T3) (r := T4) rfl ?_
  refine st3 h2 (by decide) fun S3 p3 h3 => ?_
  dsimp only
  refine stepB (b := T4) (s := hd T4) (r := T5) rfl ?_
  refine st4 h3 (by decide) fun S4 p4 h4 => ?_
  dsimp only
  refine stepB (b := T5) (s := hd T5) (r := T6) rfl ?_
  refine st5 h4 (by decide) fun S5 p5 h5 => ?_
  dsimp only
  refine stepB (b := T6) (s := hd T6) (r := T7) rfl ?_
  refine st6 fun S6 q6 e6 h6 => ?_
  dsimp only
  refine stepB (b := T7) (s := hd T7) (r := T8) rfl ?_
  refine st7 h20 (e6 _ _ h5) h6 fun S7 => ?_
  dsimp only
  refine stepB (b := T8) (s := hd T8) (r := T9) rfl ?_
  refine st8 h20 fun S8 => ?_
  dsimp only
  refine stepB (b := T9) (s := hd T9) (r := T10) rfl ?_
  refine st9 fun S9 p9 h9 => ?_
  dsimp only
  refine stepB (b := T10) (s := hd T10) (r := T11) rfl ?_
  refine st10 h9 fun S10 x8' h10 => ?_
  dsimp only
  refine stepB (b := T11) (s := hd T11) (r := T12) rfl ?_
  refine st11 h20 h10 fun S11 => ?_
  dsimp only
  exact st12 h20 q
end K01

set_option Elab.async false
set_option linter.all false
set_option maxRecDepth 100000
set_option maxHeartbeats 1000000

namespace K01
open PySem PySem.Spec PyProof.Rows L2 DW

/-! ### the module's own part -/
theorem look_mem {α β : Type} [BEq α] [LawfulBEq α] {x : α} {d : β} : ∀ {l : List (α × β)}, l.lookup x = some d → (x, d) ∈ l
  | [], h => by cases h
  | (y, e) :: r, h => by
    rw [List.lookup_cons] at h
    cases q : x == y with
    | true =>
      rw [q] at h
      have q1 := eq_of_beq q
      cases h
      rw [q1]
      exact List.mem_cons_self
    | false =>
      rw [q] at h
      exact List.mem_cons_of_mem _ (look_mem h)
/-- a def stands in the written part -/
structure FunAt (K : PySem.W.Frag) (x : Str) (st : Stmt) : Prop where
  ex : ∃ (f : Addr) (oc : Value) (od : Option Addr) (kV doc pm : Value) (an : Option Addr) (cdv ct : Value) (osl : Array (Option Value)), PySem.W.nsIn K mainGlobals x = some (some (.ref f)) ∧
    K.lookup f = some ⟨oc, od, .func (PySem.W.fnOf x x (defArgs st) (defBody st) (defScope st) .none kV doc pm an cdv ct), osl⟩ ∧ PySem.W.codeIn K cdv x = true ∧ PySem.W.keepIn K (.ref f) = true
theorem fun_at {K : PySem.W.Frag} {x : Str} {st : Stmt} {f : Addr} {oc : Value} {od an : Option Addr} {kV doc pm cdv ct : Value} {osl : Array (Option Value)} (a : PySem.W.nsIn K mainGlobals x = some (some (.ref f)))
    (l : K.lookup f = some ⟨oc, od, .func (PySem.W.fnOf x x (defArgs st) (defBody st) (defScope st) .none kV doc pm an cdv ct), osl⟩) (c : PySem.W.codeIn K cdv x = true) (k : PySem.W.keepIn K (.ref f) = true) : FunAt K x st :=
  ⟨f, oc, od, kV, doc, pm, an, cdv, ct, osl, a, l, c, k⟩
/-- a name of the module and its data -/
structure ConAt (K : PySem.W.Frag) (x : Str) (d : D) : Prop where
  ex : ∃ (v : V) (u : Value), PySem.W.nsIn K mainGlobals x = some (some u) ∧ RelV v u ∧ ∀ φ H, Rep K φ H v d
theorem con_int {K : PySem.W.Frag} {x : Str} {i : Int} {t : Tok} (a : PySem.W.nsIn K mainGlobals x = some (some (.int i t))) : ConAt K x (.int i) := ⟨.int i, _, a, ⟨t, rfl⟩, fun _ _ => .int i⟩
/-- a value that is a text -/
def strV : Value → Option Str
  | .str x _ => some x
  | _ => none
theorem strs_rel {K : PySem.W.Frag} : ∀ {us : List Value} {xs : List Str}, us.map strV = xs.map some → Vals (xs.map V.str) us
  | [], [], _ => .nil
  | [], _ :: _, h => by cases h
  | _ :: _, [], h => by cases h
  | u :: us, x :: xs, h => by
    simp only [List.map_cons, List.cons.injEq] at h
    refine .cons ?_ (strs_rel (K := K) h.2)
    cases u <;> first | (cases h.1; done) | skip
    case str y t => exact ⟨t, by have := Option.some.inj h.1; rw [this]⟩
theorem strs_rep {K : PySem.W.Frag} {φ : List Addr} {H : Hp} : ∀ xs : List Str, RepL K φ H (xs.map V.str) (xs.map D.str)
  | [] => .nil
  | x :: xs => .cons (.str x) (strs_rep xs)
theorem tup_at {K : PySem.W.Frag} {p : Addr} {od : Option Addr} {its : Array Value} {n : Nat} {osl : Array (Option Value)} (xs : List Str) (l : K.lookup p = some ⟨.type "tuple", od, .seq its n, osl⟩) (h : its.toList.map strV = xs.map some) (hl : xs.length ≤ 100) (φ : List Addr) (H : Hp) : Rep K φ H (.ref p) (.tup (xs.map D.str)) := by
  refine .tup (.inr ⟨_, its, n, l, rfl, rfl, ?_, strs_rel (K := K) h⟩) (strs_rep xs)
  have : its.toList.length = xs.length := by simpa using congrArg List.length h
  rw [← Array.length_toList, this]
  exact Nat.le_trans hl (by decide)
theorem con_strs {K : PySem.W.Frag} {x : Str} {p : Addr} {od : Option Addr} {its : Array Value} {n : Nat} {osl : Array (Option Value)} (xs : List Str) (hl : xs.length ≤ 100) (a : PySem.W.nsIn K mainGlobals x = some (some (.ref p))) (l : K.lookup p = some ⟨.type "tuple", od, .seq its n, osl⟩) (h : its.toList.map strV = xs.map some) : ConAt K x (.tup (xs.map D.str)) :=
  ⟨.ref p, _, a, rfl, fun φ H => tup_at xs l h hl φ H⟩
theorem con_marks {K : PySem.W.Frag} {x : Str} {p a b : Addr} {od od1 od2 : Option Addr} {its its1 its2 : Array Value} {n n1 n2 : Nat} {osl osl1 osl2 : Array (Option Value)} (xs ys : List Str) (hx : xs.length ≤ 100) (hy : ys.length ≤ 100) (e : PySem.W.nsIn K mainGlobals x = some (some (.ref p)))
    (l : K.lookup p = some ⟨.type "tuple", od, .seq its n, osl⟩) (h : its.toList = [.ref a, .ref b]) (l1 : K.lookup a = some ⟨.type "tuple", od1, .seq its1 n1, osl1⟩) (h1 : its1.toList.map strV = xs.map some) (l2 : K.lookup b = some ⟨.type "tuple", od2, .seq its2 n2, osl2⟩) (h2 : its2.toList.map strV = ys.map some) : ConAt K x (.tup [.tup (xs.map D.str), .tup (ys.map D.str)]) := by
  refine ⟨.ref p, _, e, rfl, fun φ H => .tup (vs := [.ref a, .ref b]) (.inr ⟨_, its, n, l, rfl, rfl, ?_, ?_⟩) (.cons (tup_at xs l1 h1 hx φ H) (.cons (tup_at ys l2 h2 hy φ H) .nil))⟩
  · rw [← Array.length_toList, h]
    show 2 ≤ sizeLine
    decide
  · rw [h]
    exact .cons rfl (.cons rfl .nil)
/-- what the written part must show -/
structure Facts (K : PySem.W.Frag) : Prop where
  f_is_row : FunAt K "is_row" s_is_row
  f_is_notice : FunAt K "is_notice" s_is_notice
  f_is_house : FunAt K "is_house" s_is_house
  f_is_formula : FunAt K "is_formula" s_is_formula
  f_is_sign : FunAt K "is_sign" s_is_sign
  f_is_number : FunAt K "is_number" s_is_number
  f__is_triple : FunAt K "_is_triple" s__is_triple
  f__is_nested : FunAt K "_is_nested" s__is_nested
  f__law_source : FunAt K "_law_source" s__law_source
  f__law_draw : FunAt K "_law_draw" s__law_draw
  f__law_choice : FunAt K "_law_choice" s__law_choice
  f__law_from : FunAt K "_law_from" s__law_from
  f__law_clause : FunAt K "_law_clause" s__law_clause
  f__law_notice : FunAt K "_law_notice" s__law_notice
  f__law_formula : FunAt K "_law_formula" s__law_formula
  f__law_is_triple : FunAt K "_law_is_triple" s__law_is_triple
  f__law_is_row : FunAt K "_law_is_row" s__law_is_row
  f__law_joints : FunAt K "_law_joints" s__law_joints
  f__law_is_notice : FunAt K "_law_is_notice" s__law_is_notice
  f__law_is_house : FunAt K "_law_is_house" s__law_is_house
  f__law_is_formula : FunAt K "_law_is_formula" s__law_is_formula
  f__law_bent : FunAt K "_law_bent" s__law_bent
  f__law_told : FunAt K "_law_told" s__law_told
  f_law : FunAt K "law" s_law
  k_JOINTS : ConAt K "JOINTS" c_JOINTS
  k_MOST_SIGNS : ConAt K "MOST_SIGNS" c_MOST_SIGNS
  k_MOST_CLAUSES : ConAt K "MOST_CLAUSES" c_MOST_CLAUSES
  k_MOST_PEOPLE : ConAt K "MOST_PEOPLE" c_MOST_PEOPLE
  k_MOST_DEPTH : ConAt K "MOST_DEPTH" c_MOST_DEPTH
  k_MOST_TOLD : ConAt K "MOST_TOLD" c_MOST_TOLD
  k_SORTS : ConAt K "SORTS" c_SORTS
  k_MARK_CLAUSES : ConAt K "MARK_CLAUSES" c_MARK_CLAUSES
  k_COUNT_CLAUSES : ConAt K "COUNT_CLAUSES" c_COUNT_CLAUSES
  k_MARKS : ConAt K "MARKS" c_MARKS
  k_COUNTED : ConAt K "COUNTED" c_COUNTED
  k_OTHER_SIGNS : ConAt K "OTHER_SIGNS" c_OTHER_SIGNS
  k_PAIR_WORDS : ConAt K "PAIR_WORDS" c_PAIR_WORDS
  b_len : PySem.W.nsIn K mainGlobals "len" = some none
  b_isinstance : PySem.W.nsIn K mainGlobals "isinstance" = some none
  b_all : PySem.W.nsIn K mainGlobals "all" = some none
  b_abs : PySem.W.nsIn K mainGlobals "abs" = some none
  b_int : PySem.W.nsIn K mainGlobals "int" = some none
  b_min : PySem.W.nsIn K mainGlobals "min" = some none
  b_list : PySem.W.nsIn K mainGlobals "list" = some none
  b_tuple : PySem.W.nsIn K mainGlobals "tuple" = some none
  b_bool : PySem.W.nsIn K mainGlobals "bool" = some none
  b_str : PySem.W.nsIn K mainGlobals "str" = some none
  b_range : PySem.W.nsIn K mainGlobals "range" = some none
section
variable {P : Program} {w : World} {K : PySem.W.Frag} {mg : Str → Option Value} {base : Heap}
theorem none_at {f : Addr} {fd : FuncData} {ps : List Str} {sp : FSp} (h : ∀ ds S Q, ¬ sp ds S Q) : FnOk P w K mg base CX0 0 f fd ps (spD K sp) := by
  have no : ∀ vs H Q E, ¬ spD K sp vs H Q E := fun vs H Q E z => by
    obtain ⟨ds, S, φ, QD, _, _, q, _⟩ := z
    exact h ds S QD q
  exact ⟨fun vs H Q E h => absurd h (no vs H Q E), fun A outer s H args us vs Q E _ _ _ _ h => absurd h (no vs H Q E)⟩
/-- the i-th def keeps its promise with n calls -/
def Ok1 (P : Program) (w : World) (K : PySem.W.Frag) (mg : Str → Option Value) (base : Heap) (n i : Nat) (x : Str) : Prop :=
  ∃ sp, (fsN n)[i]? = some sp ∧ ∃ (f : Addr) (fd : FuncData) (ps : List Str), FnOk P w K mg base CX0 n f fd ps (spD K sp) ∧ mg x = some (.ref f) ∧ PySem.W.keepIn K (.ref f) = true ∧ Binds K fd ps []
def AllOk (P : Program) (w : World) (K : PySem.W.Frag) (mg : Str → Option Value) (base : Heap) (n : Nat) : Prop := ∀ (i : Nat) (x : Str), FN[i]? = some x → Ok1 P w K mg base n i x
theorem con_of {h : Heap} (X : K.In h) (G : h.Ns mainGlobals mg) {x : Str} {d : D} (c : ConAt K x d) : ∃ v u, mg x = some u ∧ RelV v u ∧ ∀ φ H, Rep K φ H v d := by
  obtain ⟨v, u, a, r, q⟩ := c.ex
  exact ⟨v, u, PySem.W.mg_of X G a, r, q⟩
theorem cons_of {h : Heap} (X : K.In h) (G : h.Ns mainGlobals mg) (Fa : Facts K) : ∀ (x : Str) (d : D), CON.lookup x = some d → ∃ v u, mg x = some u ∧ RelV v u ∧ ∀ φ H, Rep K φ H v d := by
  intro x d e
  have m := look_mem e
  simp only [List.mem_cons, List.not_mem_nil, or_false, Prod.mk.injEq] at m
  rcases m with ⟨rfl, rfl⟩ | ⟨rfl, rfl⟩ | ⟨rfl, rfl⟩ | ⟨rfl, rfl⟩ | ⟨rfl, rfl⟩ | ⟨rfl, rfl⟩ | ⟨rfl, rfl⟩ | ⟨rfl, rfl⟩ | ⟨rfl, rfl⟩ | ⟨rfl, rfl⟩ | ⟨rfl, rfl⟩ | ⟨rfl, rfl⟩ | ⟨rfl, rfl⟩
  · exact con_of X G Fa.k_JOINTS
  · exact con_of X G Fa.k_MOST_SIGNS
  · exact con_of X G Fa.k_MOST_CLAUSES
  · exact con_of X G Fa.k_MOST_PEOPLE
  · exact con_of X G Fa.k_MOST_DEPTH
  · exact con_of X G Fa.k_MOST_TOLD
  · exact con_of X G Fa.k_SORTS
  · exact con_of X G Fa.k_MARK_CLAUSES
  · exact con_of X G Fa.k_COUNT_CLAUSES
  · exact con_of X G Fa.k_MARKS
  · exact con_of X G Fa.k_COUNTED
  · exact con_of X G Fa.k_OTHER_SIGNS
  · exact con_of X G Fa.k_PAIR_WORDS
theorem bns_of {h : Heap} (X : K.In h) (G : h.Ns mainGlobals mg) (Fa : Facts K) : ∀ x, BN.contains x = true → mg x = none := by
  intro x e
  have m := List.contains_iff_mem.mp e
  simp only [List.mem_cons, List.not_mem_nil, or_false] at m
  rcases m with rfl | rfl | rfl | rfl | rfl | rfl | rfl | rfl | rfl | rfl | rfl
  · exact PySem.W.mg_none_of X G Fa.b_len
  · exact PySem.W.mg_none_of X G Fa.b_isinstance
  · exact PySem.W.mg_none_of X G Fa.b_all
  · exact PySem.W.mg_none_of X G Fa.b_abs
  · exact PySem.W.mg_none_of X G Fa.b_int
  · exact PySem.W.mg_none_of X G Fa.b_min
  · exact PySem.W.mg_none_of X G Fa.b_list
  · exact PySem.W.mg_none_of X G Fa.b_tuple
  · exact PySem.W.mg_none_of X G Fa.b_bool
  · exact PySem.W.mg_none_of X G Fa.b_str
  · exact PySem.W.mg_none_of X G Fa.b_range
theorem top_of {h : Heap} (X : K.In h) (G : h.Ns mainGlobals mg) (Fa : Facts K) {n : Nat} (A : AllOk P w K mg base n) (C : DW.Ctx) (h1 : C.con = CON) (h2 : C.fn = FN) (h3 : C.bn = BN) : Top P w K mg base n (fsN n) C :=
  ⟨by rw [h1]; exact cons_of X G Fa, by rw [h2]; exact A, by rw [h3]; exact bns_of X G Fa⟩
theorem ok_is_row {h : Heap} (X : K.In h) (G : h.Ns mainGlobals mg) (Fa : Facts K) {n : Nat} (T : ∀ m, n = m + 1 → Top P w K mg base m (fsN m) C_is_row) : Ok1 P w K mg base n 0 "is_row" := by
  obtain ⟨f, oc, od, kV, doc, pm, an, cdv, ct, osl, a, l, c, k⟩ := Fa.f_is_row.ex
  have F := fun_mk (st := s_is_row) l c k
  refine ⟨lv n 1 spIsRow, rfl, f, _, ["signs"], ?_, PySem.W.mg_of X G a, k, F.binds fun _ _ _ _ _ _ us hl => match us, hl with | [_], _ => rfl⟩
  cases n with
  | zero => exact none_at fun ds S Q h => by have := h.1; omega
  | succ n => exact fn_ok F sc_is_row rfl rfl co_is_row (T n rfl) (fun ds S Q h => by first | (obtain ⟨_, rfl, _⟩ := h; rfl) | (obtain ⟨_, _, rfl, _⟩ := h; rfl) | (obtain ⟨_, _, _, rfl, _⟩ := h; rfl) | (obtain ⟨_, _, _, _, rfl, _⟩ := h; rfl) | (obtain ⟨_, _, _, _, _, rfl, _⟩ := h; rfl) | (obtain ⟨_, _, _, _, _, _, rfl, _⟩ := h; rfl)) (ob_is_row n)
theorem ok_is_notice {h : Heap} (X : K.In h) (G : h.Ns mainGlobals mg) (Fa : Facts K) {n : Nat} (T : ∀ m, n = m + 1 → Top P w K mg base m (fsN m) C_is_notice) : Ok1 P w K mg base n 1 "is_notice" := by
  obtain ⟨f, oc, od, kV, doc, pm, an, cdv, ct, osl, a, l, c, k⟩ := Fa.f_is_notice.ex
  have F := fun_mk (st := s_is_notice) l c k
  refine ⟨lv n 4 spIsNotice, rfl, f, _, ["value"], ?_, PySem.W.mg_of X G a, k, F.binds fun _ _ _ _ _ _ us hl => match us, hl with | [_], _ => rfl⟩
  cases n with
  | zero => exact none_at fun ds S Q h => by have := h.1; omega
  | succ n => exact fn_ok F sc_is_notice rfl rfl co_is_notice (T n rfl) (fun ds S Q h => by first | (obtain ⟨_, rfl, _⟩ := h; rfl) | (obtain ⟨_, _, rfl, _⟩ := h; rfl) | (obtain ⟨_, _, _, rfl, _⟩ := h; rfl) | (obtain ⟨_, _, _, _, rfl, _⟩ := h; rfl) | (obtain ⟨_, _, _, _, _, rfl, _⟩ := h; rfl) | (obtain ⟨_, _, _, _, _, _, rfl, _⟩ := h; rfl)) (ob_is_notice n)
theorem ok_is_house {h : Heap} (X : K.In h) (G : h.Ns mainGlobals mg) (Fa : Facts K) {n : Nat} (T : ∀ m, n = m + 1 → Top P w K mg base m (fsN m) C_is_house) : Ok1 P w K mg base n 2 "is_house" := by
  obtain ⟨f, oc, od, kV, doc, pm, an, cdv, ct, osl, a, l, c, k⟩ := Fa.f_is_house.ex
  have F := fun_mk (st := s_is_house) l c k
  refine ⟨lv n 2 spIsHouse, rfl, f, _, ["value"], ?_, PySem.W.mg_of X G a, k, F.binds fun _ _ _ _ _ _ us hl => match us, hl with | [_], _ => rfl⟩
  cases n with
  | zero => exact none_at fun ds S Q h => by have := h.1; omega
  | succ n => exact fn_ok F sc_is_house rfl rfl co_is_house (T n rfl) (fun ds S Q h => by first | (obtain ⟨_, rfl, _⟩ := h; rfl) | (obtain ⟨_, _, rfl, _⟩ := h; rfl) | (obtain ⟨_, _, _, rfl, _⟩ := h; rfl) | (obtain ⟨_, _, _, _, rfl, _⟩ := h; rfl) | (obtain ⟨_, _, _, _, _, rfl, _⟩ := h; rfl) | (obtain ⟨_, _, _, _, _, _, rfl, _⟩ := h; rfl)) (ob_is_house n)
theorem ok_is_formula {h : Heap} (X : K.In h) (G : h.Ns mainGlobals mg) (Fa : Facts K) {n : Nat} (T : ∀ m, n = m + 1 → Top P w K mg base m (fsN m) C_is_formula) : Ok1 P w K mg base n 3 "is_formula" := by
  obtain ⟨f, oc, od, kV, doc, pm, an, cdv, ct, osl, a, l, c, k⟩ := Fa.f_is_formula.ex
  have F := fun_mk (st := s_is_formula) l c k
  refine ⟨lv n 14 spIsFormula, rfl, f, _, ["value"], ?_, PySem.W.mg_of X G a, k, F.binds fun _ _ _ _ _ _ us hl => match us, hl with | [_], _ => rfl⟩
  cases n with
  | zero => exact none_at fun ds S Q h => by have := h.1; omega
  | succ n => exact fn_ok F sc_is_formula rfl rfl co_is_formula (T n rfl) (fun ds S Q h => by first | (obtain ⟨_, rfl, _⟩ := h; rfl) | (obtain ⟨_, _, rfl, _⟩ := h; rfl) | (obtain ⟨_, _, _, rfl, _⟩ := h; rfl) | (obtain ⟨_, _, _, _, rfl, _⟩ := h; rfl) | (obtain ⟨_, _, _, _, _, rfl, _⟩ := h; rfl) | (obtain ⟨_, _, _, _, _, _, rfl, _⟩ := h; rfl)) (ob_is_formula n)
theorem ok_is_sign {h : Heap} (X : K.In h) (G : h.Ns mainGlobals mg) (Fa : Facts K) {n : Nat} (T : ∀ m, n = m + 1 → Top P w K mg base m (fsN m) C_is_sign) : Ok1 P w K mg base n 4 "is_sign" := by
  obtain ⟨f, oc, od, kV, doc, pm, an, cdv, ct, osl, a, l, c, k⟩ := Fa.f_is_sign.ex
  have F := fun_mk (st := s_is_sign) l c k
  refine ⟨lv n 3 spIsSign, rfl, f, _, ["value"], ?_, PySem.W.mg_of X G a, k, F.binds fun _ _ _ _ _ _ us hl => match us, hl with | [_], _ => rfl⟩
  cases n with
  | zero => exact none_at fun ds S Q h => by have := h.1; omega
  | succ n => exact fn_ok F sc_is_sign rfl rfl co_is_sign (T n rfl) (fun ds S Q h => by first | (obtain ⟨_, rfl, _⟩ := h; rfl) | (obtain ⟨_, _, rfl, _⟩ := h; rfl) | (obtain ⟨_, _, _, rfl, _⟩ := h; rfl) | (obtain ⟨_, _, _, _, rfl, _⟩ := h; rfl) | (obtain ⟨_, _, _, _, _, rfl, _⟩ := h; rfl) | (obtain ⟨_, _, _, _, _, _, rfl, _⟩ := h; rfl)) (ob_is_sign n)
theorem ok_is_number {h : Heap} (X : K.In h) (G : h.Ns mainGlobals mg) (Fa : Facts K) {n : Nat} (T : ∀ m, n = m + 1 → Top P w K mg base m (fsN m) C_is_number) : Ok1 P w K mg base n 5 "is_number" := by
  obtain ⟨f, oc, od, kV, doc, pm, an, cdv, ct, osl, a, l, c, k⟩ := Fa.f_is_number.ex
  have F := fun_mk (st := s_is_number) l c k
  refine ⟨lv n 1 spIsNumber, rfl, f, _, ["value", "least", "most"], ?_, PySem.W.mg_of X G a, k, F.binds fun _ _ _ _ _ _ us hl => match us, hl with | [_, _, _], _ => rfl⟩
  cases n with
  | zero => exact none_at fun ds S Q h => by have := h.1; omega
  | succ n => exact fn_ok F sc_is_number rfl rfl co_is_number (T n rfl) (fun ds S Q h => by first | (obtain ⟨_, rfl, _⟩ := h; rfl) | (obtain ⟨_, _, rfl, _⟩ := h; rfl) | (obtain ⟨_, _, _, rfl, _⟩ := h; rfl) | (obtain ⟨_, _, _, _, rfl, _⟩ := h; rfl) | (obtain ⟨_, _, _, _, _, rfl, _⟩ := h; rfl) | (obtain ⟨_, _, _, _, _, _, rfl, _⟩ := h; rfl)) (ob_is_number n)
theorem ok__is_triple {h : Heap} (X : K.In h) (G : h.Ns mainGlobals mg) (Fa : Facts K) {n : Nat} (T : ∀ m, n = m + 1 → Top P w K mg base m (fsN m) C__is_triple) : Ok1 P w K mg base n 6 "_is_triple" := by
  obtain ⟨f, oc, od, kV, doc, pm, an, cdv, ct, osl, a, l, c, k⟩ := Fa.f__is_triple.ex
  have F := fun_mk (st := s__is_triple) l c k
  refine ⟨lv n 2 spIsTriple, rfl, f, _, ["value", "mark_words", "count_words"], ?_, PySem.W.mg_of X G a, k, F.binds fun _ _ _ _ _ _ us hl => match us, hl with | [_, _, _], _ => rfl⟩
  cases n with
  | zero => exact none_at fun ds S Q h => by have := h.1; omega
  | succ n => exact fn_ok F sc__is_triple rfl rfl co__is_triple (T n rfl) (fun ds S Q h => by first | (obtain ⟨_, rfl, _⟩ := h; rfl) | (obtain ⟨_, _, rfl, _⟩ := h; rfl) | (obtain ⟨_, _, _, rfl, _⟩ := h; rfl) | (obtain ⟨_, _, _, _, rfl, _⟩ := h; rfl) | (obtain ⟨_, _, _, _, _, rfl, _⟩ := h; rfl) | (obtain ⟨_, _, _, _, _, _, rfl, _⟩ := h; rfl)) (ob__is_triple n)
theorem ok__is_nested {h : Heap} (X : K.In h) (G : h.Ns mainGlobals mg) (Fa : Facts K) {n : Nat} (T : ∀ m, n = m + 1 → Top P w K mg base m (fsN m) C__is_nested) : Ok1 P w K mg base n 7 "_is_nested" := by
  obtain ⟨f, oc, od, kV, doc, pm, an, cdv, ct, osl, a, l, c, k⟩ := Fa.f__is_nested.ex
  have F := fun_mk (st := s__is_nested) l c k
  refine ⟨spIsNested n, rfl, f, _, ["value", "depth"], ?_, PySem.W.mg_of X G a, k, F.binds fun _ _ _ _ _ _ us hl => match us, hl with | [_, _], _ => rfl⟩
  cases n with
  | zero => exact none_at fun ds S Q h => by obtain ⟨d, j, _, hj, _⟩ := h; omega
  | succ n => exact fn_ok F sc__is_nested rfl rfl co__is_nested (T n rfl) (fun ds S Q h => by first | (obtain ⟨_, rfl, _⟩ := h; rfl) | (obtain ⟨_, _, rfl, _⟩ := h; rfl) | (obtain ⟨_, _, _, rfl, _⟩ := h; rfl) | (obtain ⟨_, _, _, _, rfl, _⟩ := h; rfl) | (obtain ⟨_, _, _, _, _, rfl, _⟩ := h; rfl) | (obtain ⟨_, _, _, _, _, _, rfl, _⟩ := h; rfl)) (ob__is_nested n)
theorem ok__law_source {h : Heap} (X : K.In h) (G : h.Ns mainGlobals mg) (Fa : Facts K) {n : Nat} (T : ∀ m, n = m + 1 → Top P w K mg base m (fsN m) C__law_source) : Ok1 P w K mg base n 8 "_law_source" := by
  obtain ⟨f, oc, od, kV, doc, pm, an, cdv, ct, osl, a, l, c, k⟩ := Fa.f__law_source.ex
  have F := fun_mk (st := s__law_source) l c k
  refine ⟨lv n 1 spSource, rfl, f, _, ["_law_script", "_law_k"], ?_, PySem.W.mg_of X G a, k, F.binds fun _ _ _ _ _ _ us hl => match us, hl with | [_, _], _ => rfl⟩
  cases n with
  | zero => exact none_at fun ds S Q h => by have := h.1; omega
  | succ n => exact fn_ok F sc__law_source rfl rfl co__law_source (T n rfl) (fun ds S Q h => by first | (obtain ⟨_, rfl, _⟩ := h; rfl) | (obtain ⟨_, _, rfl, _⟩ := h; rfl) | (obtain ⟨_, _, _, rfl, _⟩ := h; rfl) | (obtain ⟨_, _, _, _, rfl, _⟩ := h; rfl) | (obtain ⟨_, _, _, _, _, rfl, _⟩ := h; rfl) | (obtain ⟨_, _, _, _, _, _, rfl, _⟩ := h; rfl)) (ob__law_source n)
theorem ok__law_draw {h : Heap} (X : K.In h) (G : h.Ns mainGlobals mg) (Fa : Facts K) {n : Nat} (T : ∀ m, n = m + 1 → Top P w K mg base m (fsN m) C__law_draw) : Ok1 P w K mg base n 9 "_law_draw" := by
  obtain ⟨f, oc, od, kV, doc, pm, an, cdv, ct, osl, a, l, c, k⟩ := Fa.f__law_draw.ex
  have F := fun_mk (st := s__law_draw) l c k
  refine ⟨lv n 1 spDraw, rfl, f, _, ["_law_source_here", "_law_many"], ?_, PySem.W.mg_of X G a, k, F.binds fun _ _ _ _ _ _ us hl => match us, hl with | [_, _], _ => rfl⟩
  cases n with
  | zero => exact none_at fun ds S Q h => by have := h.1; omega
  | succ n => exact fn_ok F sc__law_draw rfl rfl co__law_draw (T n rfl) (fun ds S Q h => by first | (obtain ⟨_, rfl, _⟩ := h; rfl) | (obtain ⟨_, _, rfl, _⟩ := h; rfl) | (obtain ⟨_, _, _, rfl, _⟩ := h; rfl) | (obtain ⟨_, _, _, _, rfl, _⟩ := h; rfl) | (obtain ⟨_, _, _, _, _, rfl, _⟩ := h; rfl) | (obtain ⟨_, _, _, _, _, _, rfl, _⟩ := h; rfl)) (ob__law_draw n)
theorem ok__law_choice {h : Heap} (X : K.In h) (G : h.Ns mainGlobals mg) (Fa : Facts K) {n : Nat} (T : ∀ m, n = m + 1 → Top P w K mg base m (fsN m) C__law_choice) : Ok1 P w K mg base n 10 "_law_choice" := by
  obtain ⟨f, oc, od, kV, doc, pm, an, cdv, ct, osl, a, l, c, k⟩ := Fa.f__law_choice.ex
  have F := fun_mk (st := s__law_choice) l c k
  refine ⟨lv n 2 spChoice, rfl, f, _, ["_law_source_here", "_law_some"], ?_, PySem.W.mg_of X G a, k, F.binds fun _ _ _ _ _ _ us hl => match us, hl with | [_, _], _ => rfl⟩
  cases n with
  | zero => exact none_at fun ds S Q h => by have := h.1; omega
  | succ n => exact fn_ok F sc__law_choice rfl rfl co__law_choice (T n rfl) (fun ds S Q h => by first | (obtain ⟨_, rfl, _⟩ := h; rfl) | (obtain ⟨_, _, rfl, _⟩ := h; rfl) | (obtain ⟨_, _, _, rfl, _⟩ := h; rfl) | (obtain ⟨_, _, _, _, rfl, _⟩ := h; rfl) | (obtain ⟨_, _, _, _, _, rfl, _⟩ := h; rfl) | (obtain ⟨_, _, _, _, _, _, rfl, _⟩ := h; rfl)) (ob__law_choice n)
theorem ok__law_from {h : Heap} (X : K.In h) (G : h.Ns mainGlobals mg) (Fa : Facts K) {n : Nat} (T : ∀ m, n = m + 1 → Top P w K mg base m (fsN m) C__law_from) : Ok1 P w K mg base n 11 "_law_from" := by
  obtain ⟨f, oc, od, kV, doc, pm, an, cdv, ct, osl, a, l, c, k⟩ := Fa.f__law_from.ex
  have F := fun_mk (st := s__law_from) l c k
  refine ⟨lv n 1 spIsNumber, rfl, f, _, ["_law_value", "_law_low", "_law_high"], ?_, PySem.W.mg_of X G a, k, F.binds fun _ _ _ _ _ _ us hl => match us, hl with | [_, _, _], _ => rfl⟩
  cases n with
  | zero => exact none_at fun ds S Q h => by have := h.1; omega
  | succ n => exact fn_ok F sc__law_from rfl rfl co__law_from (T n rfl) (fun ds S Q h => by first | (obtain ⟨_, rfl, _⟩ := h; rfl) | (obtain ⟨_, _, rfl, _⟩ := h; rfl) | (obtain ⟨_, _, _, rfl, _⟩ := h; rfl) | (obtain ⟨_, _, _, _, rfl, _⟩ := h; rfl) | (obtain ⟨_, _, _, _, _, rfl, _⟩ := h; rfl) | (obtain ⟨_, _, _, _, _, _, rfl, _⟩ := h; rfl)) (ob__law_from n)
theorem ok__law_clause {h : Heap} (X : K.In h) (G : h.Ns mainGlobals mg) (Fa : Facts K) {n : Nat} (T : ∀ m, n = m + 1 → Top P w K mg base m (fsN m) C__law_clause) : Ok1 P w K mg base n 12 "_law_clause" := by
  obtain ⟨f, oc, od, kV, doc, pm, an, cdv, ct, osl, a, l, c, k⟩ := Fa.f__law_clause.ex
  have F := fun_mk (st := s__law_clause) l c k
  refine ⟨lv n 3 spClause, rfl, f, _, ["_law_source_here"], ?_, PySem.W.mg_of X G a, k, F.binds fun _ _ _ _ _ _ us hl => match us, hl with | [_], _ => rfl⟩
  cases n with
  | zero => exact none_at fun ds S Q h => by have := h.1; omega
  | succ n => exact fn_ok F sc__law_clause rfl rfl co__law_clause (T n rfl) (fun ds S Q h => by first | (obtain ⟨_, rfl, _⟩ := h; rfl) | (obtain ⟨_, _, rfl, _⟩ := h; rfl) | (obtain ⟨_, _, _, rfl, _⟩ := h; rfl) | (obtain ⟨_, _, _, _, rfl, _⟩ := h; rfl) | (obtain ⟨_, _, _, _, _, rfl, _⟩ := h; rfl) | (obtain ⟨_, _, _, _, _, _, rfl, _⟩ := h; rfl)) (ob__law_clause n)
theorem ok__law_notice {h : Heap} (X : K.In h) (G : h.Ns mainGlobals mg) (Fa : Facts K) {n : Nat} (T : ∀ m, n = m + 1 → Top P w K mg base m (fsN m) C__law_notice) : Ok1 P w K mg base n 13 "_law_notice" := by
  obtain ⟨f, oc, od, kV, doc, pm, an, cdv, ct, osl, a, l, c, k⟩ := Fa.f__law_notice.ex
  have F := fun_mk (st := s__law_notice) l c k
  refine ⟨lv n 4 spNotice, rfl, f, _, ["_law_source_here", "_law_most"], ?_, PySem.W.mg_of X G a, k, F.binds fun _ _ _ _ _ _ us hl => match us, hl with | [_, _], _ => rfl⟩
  cases n with
  | zero => exact none_at fun ds S Q h => by have := h.1; omega
  | succ n => exact fn_ok F sc__law_notice rfl rfl co__law_notice (T n rfl) (fun ds S Q h => by first | (obtain ⟨_, rfl, _⟩ := h; rfl) | (obtain ⟨_, _, rfl, _⟩ := h; rfl) | (obtain ⟨_, _, _, rfl, _⟩ := h; rfl) | (obtain ⟨_, _, _, _, rfl, _⟩ := h; rfl) | (obtain ⟨_, _, _, _, _, rfl, _⟩ := h; rfl) | (obtain ⟨_, _, _, _, _, _, rfl, _⟩ := h; rfl)) (ob__law_notice n)
theorem ok__law_formula {h : Heap} (X : K.In h) (G : h.Ns mainGlobals mg) (Fa : Facts K) {n : Nat} (T : ∀ m, n = m + 1 → Top P w K mg base m (fsN m) C__law_formula) : Ok1 P w K mg base n 14 "_law_formula" := by
  obtain ⟨f, oc, od, kV, doc, pm, an, cdv, ct, osl, a, l, c, k⟩ := Fa.f__law_formula.ex
  have F := fun_mk (st := s__law_formula) l c k
  refine ⟨spFormula n, rfl, f, _, ["_law_source_here", "_law_deep"], ?_, PySem.W.mg_of X G a, k, F.binds fun _ _ _ _ _ _ us hl => match us, hl with | [_, _], _ => rfl⟩
  cases n with
  | zero => exact none_at fun ds S Q h => by obtain ⟨m, j, _, _, _, hj, _⟩ := h; omega
  | succ n => exact fn_ok F sc__law_formula rfl rfl co__law_formula (T n rfl) (fun ds S Q h => by first | (obtain ⟨_, rfl, _⟩ := h; rfl) | (obtain ⟨_, _, rfl, _⟩ := h; rfl) | (obtain ⟨_, _, _, rfl, _⟩ := h; rfl) | (obtain ⟨_, _, _, _, rfl, _⟩ := h; rfl) | (obtain ⟨_, _, _, _, _, rfl, _⟩ := h; rfl) | (obtain ⟨_, _, _, _, _, _, rfl, _⟩ := h; rfl)) (ob__law_formula n)
theorem ok__law_is_triple {h : Heap} (X : K.In h) (G : h.Ns mainGlobals mg) (Fa : Facts K) {n : Nat} (T : ∀ m, n = m + 1 → Top P w K mg base m (fsN m) C__law_is_triple) : Ok1 P w K mg base n 15 "_law_is_triple" := by
  obtain ⟨f, oc, od, kV, doc, pm, an, cdv, ct, osl, a, l, c, k⟩ := Fa.f__law_is_triple.ex
  have F := fun_mk (st := s__law_is_triple) l c k
  refine ⟨lv n 2 spLTriple, rfl, f, _, ["_law_value", "_law_words", "_law_counted"], ?_, PySem.W.mg_of X G a, k, F.binds fun _ _ _ _ _ _ us hl => match us, hl with | [_, _, _], _ => rfl⟩
  cases n with
  | zero => exact none_at fun ds S Q h => by have := h.1; omega
  | succ n => exact fn_ok F sc__law_is_triple rfl rfl co__law_is_triple (T n rfl) (fun ds S Q h => by first | (obtain ⟨_, rfl, _⟩ := h; rfl) | (obtain ⟨_, _, rfl, _⟩ := h; rfl) | (obtain ⟨_, _, _, rfl, _⟩ := h; rfl) | (obtain ⟨_, _, _, _, rfl, _⟩ := h; rfl) | (obtain ⟨_, _, _, _, _, rfl, _⟩ := h; rfl) | (obtain ⟨_, _, _, _, _, _, rfl, _⟩ := h; rfl)) (ob__law_is_triple n)
theorem ok__law_is_row {h : Heap} (X : K.In h) (G : h.Ns mainGlobals mg) (Fa : Facts K) {n : Nat} (T : ∀ m, n = m + 1 → Top P w K mg base m (fsN m) C__law_is_row) : Ok1 P w K mg base n 16 "_law_is_row" := by
  obtain ⟨f, oc, od, kV, doc, pm, an, cdv, ct, osl, a, l, c, k⟩ := Fa.f__law_is_row.ex
  have F := fun_mk (st := s__law_is_row) l c k
  refine ⟨lv n 2 spLRow, rfl, f, _, ["_law_signs"], ?_, PySem.W.mg_of X G a, k, F.binds fun _ _ _ _ _ _ us hl => match us, hl with | [_], _ => rfl⟩
  cases n with
  | zero => exact none_at fun ds S Q h => by have := h.1; omega
  | succ n => exact fn_ok F sc__law_is_row rfl rfl co__law_is_row (T n rfl) (fun ds S Q h => by first | (obtain ⟨_, rfl, _⟩ := h; rfl) | (obtain ⟨_, _, rfl, _⟩ := h; rfl) | (obtain ⟨_, _, _, rfl, _⟩ := h; rfl) | (obtain ⟨_, _, _, _, rfl, _⟩ := h; rfl) | (obtain ⟨_, _, _, _, _, rfl, _⟩ := h; rfl) | (obtain ⟨_, _, _, _, _, _, rfl, _⟩ := h; rfl)) (ob__law_is_row n)
theorem ok__law_joints {h : Heap} (X : K.In h) (G : h.Ns mainGlobals mg) (Fa : Facts K) {n : Nat} (T : ∀ m, n = m + 1 → Top P w K mg base m (fsN m) C__law_joints) : Ok1 P w K mg base n 17 "_law_joints" := by
  obtain ⟨f, oc, od, kV, doc, pm, an, cdv, ct, osl, a, l, c, k⟩ := Fa.f__law_joints.ex
  have F := fun_mk (st := s__law_joints) l c k
  refine ⟨lv n 1 spJoints, rfl, f, _, [], ?_, PySem.W.mg_of X G a, k, F.binds fun _ _ _ _ _ _ us hl => match us, hl with | [], _ => rfl⟩
  cases n with
  | zero => exact none_at fun ds S Q h => by have := h.1; omega
  | succ n => exact fn_ok F sc__law_joints rfl rfl co__law_joints (T n rfl) (fun ds S Q h => by first | (obtain ⟨_, rfl, _⟩ := h; rfl) | (obtain ⟨_, _, rfl, _⟩ := h; rfl) | (obtain ⟨_, _, _, rfl, _⟩ := h; rfl) | (obtain ⟨_, _, _, _, rfl, _⟩ := h; rfl) | (obtain ⟨_, _, _, _, _, rfl, _⟩ := h; rfl) | (obtain ⟨_, _, _, _, _, _, rfl, _⟩ := h; rfl)) (ob__law_joints n)
theorem ok__law_is_notice {h : Heap} (X : K.In h) (G : h.Ns mainGlobals mg) (Fa : Facts K) {n : Nat} (T : ∀ m, n = m + 1 → Top P w K mg base m (fsN m) C__law_is_notice) : Ok1 P w K mg base n 18 "_law_is_notice" := by
  obtain ⟨f, oc, od, kV, doc, pm, an, cdv, ct, osl, a, l, c, k⟩ := Fa.f__law_is_notice.ex
  have F := fun_mk (st := s__law_is_notice) l c k
  refine ⟨lv n 3 spLNotice, rfl, f, _, ["_law_value"], ?_, PySem.W.mg_of X G a, k, F.binds fun _ _ _ _ _ _ us hl => match us, hl with | [_], _ => rfl⟩
  cases n with
  | zero => exact none_at fun ds S Q h => by have := h.1; omega
  | succ n => exact fn_ok F sc__law_is_notice rfl rfl co__law_is_notice (T n rfl) (fun ds S Q h => by first | (obtain ⟨_, rfl, _⟩ := h; rfl) | (obtain ⟨_, _, rfl, _⟩ := h; rfl) | (obtain ⟨_, _, _, rfl, _⟩ := h; rfl) | (obtain ⟨_, _, _, _, rfl, _⟩ := h; rfl) | (obtain ⟨_, _, _, _, _, rfl, _⟩ := h; rfl) | (obtain ⟨_, _, _, _, _, _, rfl, _⟩ := h; rfl)) (ob__law_is_notice n)
theorem ok__law_is_house {h : Heap} (X : K.In h) (G : h.Ns mainGlobals mg) (Fa : Facts K) {n : Nat} (T : ∀ m, n = m + 1 → Top P w K mg base m (fsN m) C__law_is_house) : Ok1 P w K mg base n 19 "_law_is_house" := by
  obtain ⟨f, oc, od, kV, doc, pm, an, cdv, ct, osl, a, l, c, k⟩ := Fa.f__law_is_house.ex
  have F := fun_mk (st := s__law_is_house) l c k
  refine ⟨lv n 2 spLHouse, rfl, f, _, ["_law_value"], ?_, PySem.W.mg_of X G a, k, F.binds fun _ _ _ _ _ _ us hl => match us, hl with | [_], _ => rfl⟩
  cases n with
  | zero => exact none_at fun ds S Q h => by have := h.1; omega
  | succ n => exact fn_ok F sc__law_is_house rfl rfl co__law_is_house (T n rfl) (fun ds S Q h => by first | (obtain ⟨_, rfl, _⟩ := h; rfl) | (obtain ⟨_, _, rfl, _⟩ := h; rfl) | (obtain ⟨_, _, _, rfl, _⟩ := h; rfl) | (obtain ⟨_, _, _, _, rfl, _⟩ := h; rfl) | (obtain ⟨_, _, _, _, _, rfl, _⟩ := h; rfl) | (obtain ⟨_, _, _, _, _, _, rfl, _⟩ := h; rfl)) (ob__law_is_house n)
theorem ok__law_is_formula {h : Heap} (X : K.In h) (G : h.Ns mainGlobals mg) (Fa : Facts K) {n : Nat} (T : ∀ m, n = m + 1 → Top P w K mg base m (fsN m) C__law_is_formula) : Ok1 P w K mg base n 20 "_law_is_formula" := by
  obtain ⟨f, oc, od, kV, doc, pm, an, cdv, ct, osl, a, l, c, k⟩ := Fa.f__law_is_formula.ex
  have F := fun_mk (st := s__law_is_formula) l c k
  refine ⟨spLFormula n, rfl, f, _, ["_law_value", "_law_deep"], ?_, PySem.W.mg_of X G a, k, F.binds fun _ _ _ _ _ _ us hl => match us, hl with | [_, _], _ => rfl⟩
  cases n with
  | zero => exact none_at fun ds S Q h => by obtain ⟨d, j, _, hj, _⟩ := h; omega
  | succ n => exact fn_ok F sc__law_is_formula rfl rfl co__law_is_formula (T n rfl) (fun ds S Q h => by first | (obtain ⟨_, rfl, _⟩ := h; rfl) | (obtain ⟨_, _, rfl, _⟩ := h; rfl) | (obtain ⟨_, _, _, rfl, _⟩ := h; rfl) | (obtain ⟨_, _, _, _, rfl, _⟩ := h; rfl) | (obtain ⟨_, _, _, _, _, rfl, _⟩ := h; rfl) | (obtain ⟨_, _, _, _, _, _, rfl, _⟩ := h; rfl)) (ob__law_is_formula n)
theorem ok__law_bent {h : Heap} (X : K.In h) (G : h.Ns mainGlobals mg) (Fa : Facts K) {n : Nat} (T : ∀ m, n = m + 1 → Top P w K mg base m (fsN m) C__law_bent) : Ok1 P w K mg base n 21 "_law_bent" := by
  obtain ⟨f, oc, od, kV, doc, pm, an, cdv, ct, osl, a, l, c, k⟩ := Fa.f__law_bent.ex
  have F := fun_mk (st := s__law_bent) l c k
  refine ⟨spBent n, rfl, f, _, ["_law_source_here", "_law_value"], ?_, PySem.W.mg_of X G a, k, F.binds fun _ _ _ _ _ _ us hl => match us, hl with | [_, _], _ => rfl⟩
  cases n with
  | zero => exact none_at fun ds S Q h => by obtain ⟨m, v, L, j, _, hj, _⟩ := h; omega
  | succ n => exact fn_ok F sc__law_bent rfl rfl co__law_bent (T n rfl) (fun ds S Q h => by first | (obtain ⟨_, rfl, _⟩ := h; rfl) | (obtain ⟨_, _, rfl, _⟩ := h; rfl) | (obtain ⟨_, _, _, rfl, _⟩ := h; rfl) | (obtain ⟨_, _, _, _, rfl, _⟩ := h; rfl) | (obtain ⟨_, _, _, _, _, rfl, _⟩ := h; rfl) | (obtain ⟨_, _, _, _, _, _, rfl, _⟩ := h; rfl)) (ob__law_bent n)
theorem ok__law_told {h : Heap} (X : K.In h) (G : h.Ns mainGlobals mg) (Fa : Facts K) {n : Nat} (T : ∀ m, n = m + 1 → Top P w K mg base m (fsN m) C__law_told) : Ok1 P w K mg base n 22 "_law_told" := by
  obtain ⟨f, oc, od, kV, doc, pm, an, cdv, ct, osl, a, l, c, k⟩ := Fa.f__law_told.ex
  have F := fun_mk (st := s__law_told) l c k
  refine ⟨lv n 15 spTold, rfl, f, _, ["_law_value"], ?_, PySem.W.mg_of X G a, k, F.binds fun _ _ _ _ _ _ us hl => match us, hl with | [_], _ => rfl⟩
  cases n with
  | zero => exact none_at fun ds S Q h => by have := h.1; omega
  | succ n => exact fn_ok F sc__law_told rfl rfl co__law_told (T n rfl) (fun ds S Q h => by first | (obtain ⟨_, rfl, _⟩ := h; rfl) | (obtain ⟨_, _, rfl, _⟩ := h; rfl) | (obtain ⟨_, _, _, rfl, _⟩ := h; rfl) | (obtain ⟨_, _, _, _, rfl, _⟩ := h; rfl) | (obtain ⟨_, _, _, _, _, rfl, _⟩ := h; rfl) | (obtain ⟨_, _, _, _, _, _, rfl, _⟩ := h; rfl)) (ob__law_told n)
theorem ok_law {h : Heap} (X : K.In h) (G : h.Ns mainGlobals mg) (Fa : Facts K) {n : Nat} (T : ∀ m, n = m + 1 → Top P w K mg base m (fsN m) C_law) : Ok1 P w K mg base n 23 "law" := by
  obtain ⟨f, oc, od, kV, doc, pm, an, cdv, ct, osl, a, l, c, k⟩ := Fa.f_law.ex
  have F := fun_mk (st := s_law) l c k
  refine ⟨lv n 60 spLaw, rfl, f, _, ["_law_script"], ?_, PySem.W.mg_of X G a, k, F.binds fun _ _ _ _ _ _ us hl => match us, hl with | [_], _ => rfl⟩
  cases n with
  | zero => exact none_at fun ds S Q h => by have := h.1; omega
  | succ n => exact fn_ok F sc_law rfl rfl co_law (T n rfl) (fun ds S Q h => by first | (obtain ⟨_, rfl, _⟩ := h; rfl) | (obtain ⟨_, _, rfl, _⟩ := h; rfl) | (obtain ⟨_, _, _, rfl, _⟩ := h; rfl) | (obtain ⟨_, _, _, _, rfl, _⟩ := h; rfl) | (obtain ⟨_, _, _, _, _, rfl, _⟩ := h; rfl) | (obtain ⟨_, _, _, _, _, _, rfl, _⟩ := h; rfl)) (ob_law n)
theorem all_ok {h : Heap} (X : K.In h) (G : h.Ns mainGlobals mg) (Fa : Facts K) : ∀ n, AllOk P w K mg base n := by
  have step : ∀ n, (∀ m, n = m + 1 → AllOk P w K mg base m) → AllOk P w K mg base n := fun n ih i x e => by
    have T : ∀ (C : DW.Ctx), C.con = CON → C.fn = FN → C.bn = BN → ∀ m, n = m + 1 → Top P w K mg base m (fsN m) C := fun C h1 h2 h3 m hm => top_of X G Fa (ih m hm) C h1 h2 h3
    match i, e with
    | 0, e => obtain rfl : ("is_row" : Str) = x := Option.some.inj e; exact ok_is_row X G Fa (T C_is_row rfl rfl rfl)
    | 1, e => obtain rfl : ("is_notice" : Str) = x := Option.some.inj e; exact ok_is_notice X G Fa (T C_is_notice rfl rfl rfl)
    | 2, e => obtain rfl : ("is_house" : Str) = x := Option.some.inj e; exact ok_is_house X G Fa (T C_is_house rfl rfl rfl)
    | 3, e => obtain rfl : ("is_formula" : Str) = x := Option.some.inj e; exact ok_is_formula X G Fa (T C_is_formula rfl rfl rfl)
    | 4, e => obtain rfl : ("is_sign" : Str) = x := Option.some.inj e; exact ok_is_sign X G Fa (T C_is_sign rfl rfl rfl)
    | 5, e => obtain rfl : ("is_number" : Str) = x := Option.some.inj e; exact ok_is_number X G Fa (T C_is_number rfl rfl rfl)
    | 6, e => obtain rfl : ("_is_triple" : Str) = x := Option.some.inj e; exact ok__is_triple X G Fa (T C__is_triple rfl rfl rfl)
    | 7, e => obtain rfl : ("_is_nested" : Str) = x := Option.some.inj e; exact ok__is_nested X G Fa (T C__is_nested rfl rfl rfl)
    | 8, e => obtain rfl : ("_law_source" : Str) = x := Option.some.inj e; exact ok__law_source X G Fa (T C__law_source rfl rfl rfl)
    | 9, e => obtain rfl : ("_law_draw" : Str) = x := Option.some.inj e; exact ok__law_draw X G Fa (T C__law_draw rfl rfl rfl)
    | 10, e => obtain rfl : ("_law_choice" : Str) = x := Option.some.inj e; exact ok__law_choice X G Fa (T C__law_choice rfl rfl rfl)
    | 11, e => obtain rfl : ("_law_from" : Str) = x := Option.some.inj e; exact ok__law_from X G Fa (T C__law_from rfl rfl rfl)
    | 12, e => obtain rfl : ("_law_clause" : Str) = x := Option.some.inj e; exact ok__law_clause X G Fa (T C__law_clause rfl rfl rfl)
    | 13, e => obtain rfl : ("_law_notice" : Str) = x := Option.some.inj e; exact ok__law_notice X G Fa (T C__law_notice rfl rfl rfl)
    | 14, e => obtain rfl : ("_law_formula" : Str) = x := Option.some.inj e; exact ok__law_formula X G Fa (T C__law_formula rfl rfl rfl)
    | 15, e => obtain rfl : ("_law_is_triple" : Str) = x := Option.some.inj e; exact ok__law_is_triple X G Fa (T C__law_is_triple rfl rfl rfl)
    | 16, e => obtain rfl : ("_law_is_row" : Str) = x := Option.some.inj e; exact ok__law_is_row X G Fa (T C__law_is_row rfl rfl rfl)
    | 17, e => obtain rfl : ("_law_joints" : Str) = x := Option.some.inj e; exact ok__law_joints X G Fa (T C__law_joints rfl rfl rfl)
    | 18, e => obtain rfl : ("_law_is_notice" : Str) = x := Option.some.inj e; exact ok__law_is_notice X G Fa (T C__law_is_notice rfl rfl rfl)
    | 19, e => obtain rfl : ("_law_is_house" : Str) = x := Option.some.inj e; exact ok__law_is_house X G Fa (T C__law_is_house rfl rfl rfl)
    | 20, e => obtain rfl : ("_law_is_formula" : Str) = x := Option.some.inj e; exact ok__law_is_formula X G Fa (T C__law_is_formula rfl rfl rfl)
    | 21, e => obtain rfl : ("_law_bent" : Str) = x := Option.some.inj e; exact ok__law_bent X G Fa (T C__law_bent rfl rfl rfl)
    | 22, e => obtain rfl : ("_law_told" : Str) = x := Option.some.inj e; exact ok__law_told X G Fa (T C__law_told rfl rfl rfl)
    | 23, e => obtain rfl : ("law" : Str) = x := Option.some.inj e; exact ok_law X G Fa (T C_law rfl rfl rfl)
    | i + 24, e => cases e
  intro n
  induction n with
  | zero => exact step 0 fun m hm => by omega
  | succ n ih => exact step (n + 1) fun m hm => (Nat.succ.inj hm) ▸ ih
/-- what law promises -/
theorem law_top {l : PySem.W.OpenLaw} {w : World} {K : PySem.W.Frag} {h : Heap} {mg : Str → Option Value} {fa : Addr} (X : K.In h) (G : h.Ns mainGlobals mg) (hfa : mg "law" = some (.ref fa)) (Fa : Facts K) :
    ∃ fd : FuncData, (∀ (s : Shared) (v : Value), BindsTo s fd ⟨[v], []⟩ [("_law_script", v)]) ∧ ∀ base : Heap, K.In base → base.Ns mainGlobals mg → FnOk l.prog w K mg base CX0 60 fa fd ["_law_script"] (spD K (lv 60 60 spLaw)) := by
  obtain ⟨f, oc, od, kV, doc, pm, an, cdv, ct, osl, a, lk, c, k⟩ := Fa.f_law.ex
  have e := hfa.symm.trans (PySem.W.mg_of X G a)
  cases e
  refine ⟨PySem.W.fnOf "law" "law" (defArgs s_law) (defBody s_law) (defScope s_law) .none kV doc pm an cdv ct, fun s v => .of_eq rfl, fun base _ _ => ?_⟩
  have F := fun_mk (st := s_law) lk c k
  exact fn_ok F sc_law rfl rfl co_law (top_of X G Fa (all_ok X G Fa 59) C_law rfl rfl rfl) (fun ds S Q h => by obtain ⟨_, _, rfl, _⟩ := h; rfl) (ob_law 59)
theorem ints_rep {K : PySem.W.Frag} {φ : List Addr} {H : Hp} : ∀ ns : List Int, RepL K φ H (ns.map V.int) (ns.map D.int)
  | [] => .nil
  | i :: r => .cons (.int i) (ints_rep r)
theorem law_sp {K : PySem.W.Frag} {H : Hp} {a : Addr} {ns : List Int} (hl : ns.length ≤ 63) (hO : L2.Only H) (hS : SqL K H a (ns.map V.int)) (E : XK) : spD K (lv 60 60 spLaw) [.ref a] H (fun v _ => v = .bl true) E := by
  have hR : SqR K H a (ns.map V.int) := by
    rcases hS with (h | h) | h
    · rcases hO a with z | ⟨o, xs, z⟩
      · rw [z] at h; cases h
      · rw [z] at h; cases h
    · exact .inl h
    · exact .inr h
  refine ⟨[.rol (ns.map D.int)], [], [], fun d _ => d = .bl true, .cons (.rol hR (ints_rep ns)) .nil, ⟨rfl, List.nodup_nil, fun n a o h => by cases h⟩, ⟨Nat.le_refl _, ns, rfl, hl, fun _ => rfl⟩, ?_⟩
  intro d S' v H' φ' _ _ _ r q
  subst q
  cases r
  rfl
theorem walk {l : PySem.W.OpenLaw} {q : Program} {loose : List Str} {XP : (Str → Option Value) → Heap → Prop} {YP : World → Heap → Prop} {d : DefRec} {K : Params → PySem.W.Frag} (hn : l.most = some 63) (hdf : d.params.defaults = [])
    (hY : ∀ (w : World) (h : Heap), YP w h → (K w.params).In h) (hd : d.name = "law")
    (F : ∀ (w : World) (h : Heap), (K w.params).In h → Facts (K w.params)) : PySem.W.WalkO q loose XP YP l.row.toRowW d [] (fun f vs => PySem.call f vs) :=
  L2.walk_of (n := 63) (k := 60) (x := "_law_script") (CX := fun _ => CX0) (sp := fun w => spD (K w.params) (lv 60 60 spLaw)) hn (by decide) hdf ⟨rfl, by decide, by decide⟩ hY (fun w mg fa h X G e => law_top X G (by rw [← hd]; exact e) (F w h X))
    (fun _ _ a ns hl hO hS => law_sp hl hO hS _) fun _ _ _ _ _ z => z
end
end K01

open PySem PySem.W PyProof.Rows
set_option maxRecDepth 100000 in
set_option maxHeartbeats 0 in
theorem PySem.Challenge.cw_noticeways_k01_notices_and_houses_recogn_holds : PySem.Challenge.rw_noticeways_k01_notices_and_houses_recogn.Holds := by
  w_on; o_law; k_head; (case hw => w_witness2)
  k_fill
  refine K01.walk (l := PySem.Challenge.rw_noticeways_k01_notices_and_houses_recogn) rfl rfl (fun w h Y => PySem.W.kIn_of Y) ?D ?F
  case D => rfl
  case F =>
    intro w h KX
    refine' K01.Facts.mk ?f_is_row ?f_is_notice ?f_is_house ?f_is_formula ?f_is_sign ?f_is_number ?f__is_triple ?f__is_nested ?f__law_source ?f__law_draw ?f__law_choice ?f__law_from ?f__law_clause ?f__law_notice ?f__law_formula ?f__law_is_triple ?f__law_is_row ?f__law_joints ?f__law_is_notice ?f__law_is_house ?f__law_is_formula ?f__law_bent ?f__law_told ?f_law ?k_JOINTS ?k_MOST_SIGNS ?k_MOST_CLAUSES ?k_MOST_PEOPLE ?k_MOST_DEPTH ?k_MOST_TOLD ?k_SORTS ?k_MARK_CLAUSES ?k_COUNT_CLAUSES ?k_MARKS ?k_COUNTED ?k_OTHER_SIGNS ?k_PAIR_WORDS ?b_len ?b_isinstance ?b_all ?b_abs ?b_int ?b_min ?b_list ?b_tuple ?b_bool ?b_str ?b_range
    (case f_is_row => refine' K01.fun_at ?a ?l ?c ?k; (case a => k_is); (case l => k_is); (case c => k_is); (case k => k_is))
    (case f_is_notice => refine' K01.fun_at ?a ?l ?c ?k; (case a => k_is); (case l => k_is); (case c => k_is); (case k => k_is))
    (case f_is_house => refine' K01.fun_at ?a ?l ?c ?k; (case a => k_is); (case l => k_is); (case c => k_is); (case k => k_is))
    (case f_is_formula => refine' K01.fun_at ?a ?l ?c ?k; (case a => k_is); (case l => k_is); (case c => k_is); (case k => k_is))
    (case f_is_sign => refine' K01.fun_at ?a ?l ?c ?k; (case a => k_is); (case l => k_is); (case c => k_is); (case k => k_is))
    (case f_is_number => refine' K01.fun_at ?a ?l ?c ?k; (case a => k_is); (case l => k_is); (case c => k_is); (case k => k_is))
    (case f__is_triple => refine' K01.fun_at ?a ?l ?c ?k; (case a => k_is); (case l => k_is); (case c => k_is); (case k => k_is))
    (case f__is_nested => refine' K01.fun_at ?a ?l ?c ?k; (case a => k_is); (case l => k_is); (case c => k_is); (case k => k_is))
    (case f__law_source => refine' K01.fun_at ?a ?l ?c ?k; (case a => k_is); (case l => k_is); (case c => k_is); (case k => k_is))
    (case f__law_draw => refine' K01.fun_at ?a ?l ?c ?k; (case a => k_is); (case l => k_is); (case c => k_is); (case k => k_is))
    (case f__law_choice => refine' K01.fun_at ?a ?l ?c ?k; (case a => k_is); (case l => k_is); (case c => k_is); (case k => k_is))
    (case f__law_from => refine' K01.fun_at ?a ?l ?c ?k; (case a => k_is); (case l => k_is); (case c => k_is); (case k => k_is))
    (case f__law_clause => refine' K01.fun_at ?a ?l ?c ?k; (case a => k_is); (case l => k_is); (case c => k_is); (case k => k_is))
    (case f__law_notice => refine' K01.fun_at ?a ?l ?c ?k; (case a => k_is); (case l => k_is); (case c => k_is); (case k => k_is))
    (case f__law_formula => refine' K01.fun_at ?a ?l ?c ?k; (case a => k_is); (case l => k_is); (case c => k_is); (case k => k_is))
    (case f__law_is_triple => refine' K01.fun_at ?a ?l ?c ?k; (case a => k_is); (case l => k_is); (case c => k_is); (case k => k_is))
    (case f__law_is_row => refine' K01.fun_at ?a ?l ?c ?k; (case a => k_is); (case l => k_is); (case c => k_is); (case k => k_is))
    (case f__law_joints => refine' K01.fun_at ?a ?l ?c ?k; (case a => k_is); (case l => k_is); (case c => k_is); (case k => k_is))
    (case f__law_is_notice => refine' K01.fun_at ?a ?l ?c ?k; (case a => k_is); (case l => k_is); (case c => k_is); (case k => k_is))
    (case f__law_is_house => refine' K01.fun_at ?a ?l ?c ?k; (case a => k_is); (case l => k_is); (case c => k_is); (case k => k_is))
    (case f__law_is_formula => refine' K01.fun_at ?a ?l ?c ?k; (case a => k_is); (case l => k_is); (case c => k_is); (case k => k_is))
    (case f__law_bent => refine' K01.fun_at ?a ?l ?c ?k; (case a => k_is); (case l => k_is); (case c => k_is); (case k => k_is))
    (case f__law_told => refine' K01.fun_at ?a ?l ?c ?k; (case a => k_is); (case l => k_is); (case c => k_is); (case k => k_is))
    (case f_law => refine' K01.fun_at ?a ?l ?c ?k; (case a => k_is); (case l => k_is); (case c => k_is); (case k => k_is))
    (case k_JOINTS => refine' K01.con_strs ["and", "or", "unless", "onlyif"] (by decide) ?a ?l ?h; (case a => k_is); (case l => k_is); (case h => rfl))
    (case k_MOST_SIGNS => refine' K01.con_int ?a; (case a => k_is))
    (case k_MOST_CLAUSES => refine' K01.con_int ?a; (case a => k_is))
    (case k_MOST_PEOPLE => refine' K01.con_int ?a; (case a => k_is))
    (case k_MOST_DEPTH => refine' K01.con_int ?a; (case a => k_is))
    (case k_MOST_TOLD => refine' K01.con_int ?a; (case a => k_is))
    (case k_SORTS => refine' K01.con_int ?a; (case a => k_is))
    (case k_MARK_CLAUSES => refine' K01.con_strs ["all", "some", "no", "allnot"] (by decide) ?a ?l ?h; (case a => k_is); (case l => k_is); (case h => rfl))
    (case k_COUNT_CLAUSES => refine' K01.con_strs ["has"] (by decide) ?a ?l ?h; (case a => k_is); (case l => k_is); (case h => rfl))
    (case k_MARKS => refine' K01.con_marks ["a", "b"] ["b", "a"] (by decide) (by decide) ?e ?l ?h ?l1 ?h1 ?l2 ?h2; (case e => k_is); (case l => k_is); (case h => rfl); (case l1 => k_is); (case h1 => rfl); (case l2 => k_is); (case h2 => rfl))
    (case k_COUNTED => refine' K01.con_strs ["a", "b", "both"] (by decide) ?a ?l ?h; (case a => k_is); (case l => k_is); (case h => rfl))
    (case k_OTHER_SIGNS => refine' K01.con_strs ["not", "(", ")"] (by decide) ?a ?l ?h; (case a => k_is); (case l => k_is); (case h => rfl))
    (case k_PAIR_WORDS => refine' K01.con_strs ["and", "or", "if", "other"] (by decide) ?a ?l ?h; (case a => k_is); (case l => k_is); (case h => rfl))
    (case b_len => k_is)
    (case b_isinstance => k_is)
    (case b_all => k_is)
    (case b_abs => k_is)
    (case b_int => k_is)
    (case b_min => k_is)
    (case b_list => k_is)
    (case b_tuple => k_is)
    (case b_bool => k_is)
    (case b_str => k_is)
    (case b_range => k_is)
